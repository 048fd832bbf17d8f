import PyProof.Rows.All
import Wide.All
import OpenK.AllK
import Wide.FinOn
import HandS.ForMost
import PyProof.ReprRoads
import HandS.Wide
import HandS.Style
import HandS.Evl
import HandS.Conv
import HandS.Replace
import HandS.Small
import PyProof.AutoSeq1
import HandS.Zip
import HandS.More
import HandS.Walk
import HandS.Set
import HandS.SetBool
import HandS.SetKeys
import PyProof.Rows.SortStr
import HandS.Strs
import HandS.Flow
import PyProof.DelItemList
import HandS.Nested
import HandS.NestedK
import HandS.TupMul
import HandS.EndTab
import KE.KNestM
import PySem.Challenge.RW_lookdone_k06_plain_closed_simple_keyed
set_option Elab.async false
set_option linter.all false
set_option maxRecDepth 100000
set_option maxHeartbeats 4000000
namespace GR
open PySem PySem.Spec PyProof.Rows L2

/-! ### data that stands in the abstract heap -/
section
variable {X : Cx} {pins : List (Addr × Obj)} {σ : L2.St} {H : Hp} {s : Shared}
mutual
theorem nodict {K : PySem.W.Frag} : ∀ {v : V} {d : PyData}, Dp K H v d → d.hasDict = false
  | _, _, .non => by simp only [PyData.hasDict]
  | _, _, .bl b => by simp only [PyData.hasDict]
  | _, _, .int i => by simp only [PyData.hasDict]
  | _, _, .str x => by simp only [PyData.hasDict]
  | _, _, .lst _ q => by simp only [PyData.hasDict, nodicts q]
  | _, _, .tup _ q => by simp only [PyData.hasDict, nodicts q]
theorem nodicts {K : PySem.W.Frag} : ∀ {vs : List V} {ds : List PyData}, DpAll K H vs ds → PyData.hasDictAll ds = false
  | _, _, .nil => by simp only [PyData.hasDictAll]
  | _, _, .cons h q => by simp only [PyData.hasDictAll, nodict h, nodicts q, Bool.or_self]
end

/-- repr of a list or a tuple of data -/
def rRepr (X : Cx) : List V → Hp → VK → Prop := fun xs H Q => ∃ (a : Addr) (d : PyData), xs = [.ref a] ∧ Dp X.K H (.ref a) d ∧ d.showable = true ∧ d.depth ≤ 60 ∧ d.shown.length ≤ sizeLine ∧ Q (.str d.shown) H
theorem call_reprD {k : Nat} (hg : X.A.guards = some []) (hr : Room k X.A) : CallR X (.builtin "repr") (rRepr X) := by
  intro pins s σ H xs us Q I r h
  obtain ⟨a, d, rfl, hd, hs, hdep, hz, q⟩ := h
  obtain ⟨u, rfl, rv⟩ := vals1 r
  obtain rfl : u = Value.ref a := rv
  obtain ⟨as, hR⟩ := Dp.reads I d _ _ hd rfl
  have hu := hr.units
  exact repr_of_reads' hR hs (PyData.noDict_hsm (nodict hd)) hg (by omega) (fun _ _ e => e) (fun h' u tk hk => ⟨.str d.shown, H, I.kept hk, ⟨_, rfl⟩, q⟩) hz
end

/-! ### defs that show things: a promise kept wherever nothing is being shown -/
structure FnG (P : Program) (w : World) (K : PySem.W.Frag) (mg : Str → Option Value) (base : Heap) (CX : CXT) (k : Nat) (f : Addr) (fd : FuncData) (ps : List Str) (sp : Sp) : Prop where
  size : ∀ vs H Q E, sp vs H Q E → vs.length = ps.length
  go : ∀ (A : Around) (outer : List Env) (s : Shared) (H : Hp) (args : Args) (us : List Value) (vs : List V) (Q : VK) (E : XK),
    A.guards = some [] → Room k A → Env0 P w K mg base A outer s H → BindsTo s fd args (ps.zip us) → Vals vs us → sp vs H Q E →
    codeAny (model P w) A (.call (.ref f) args) (CR CX outer P w H s Q E) s

section
variable {P : Program} {w : World} {K : PySem.W.Frag} {mg : Str → Option Value} {base : Heap}
theorem FnG.of {CX : CXT} {k : Nat} {f : Addr} {fd : FuncData} {ps : List Str} {sp : Sp} (F : FnOk P w K mg base CX k f fd ps sp) : FnG P w K mg base CX k f fd ps sp :=
  ⟨F.len, fun A outer s H args us vs Q E _ => F.run A outer s H args us vs Q E⟩

/-- a def by its body, where nothing is being shown -/
theorem ok_g {x qual : Str} {st : Stmt} {f : Addr} {fd : FuncData} {N ps : List Str} {k : Nat} {sp : Sp} (F : Fun K x qual st f fd) (S : FnScope N ps (defScope st)) (size : ∀ vs H Q E, sp vs H Q E → vs.length = ps.length)
    (body : ∀ (cdv : Value) (A : Around) (outer : List Env) (s : Shared) (H : Hp) (vs : List V) (Q : VK) (E : XK), A.guards = some [] → Room k (A.deeper (envOfC qual (defScope st) s.heap.objs.size f cdv)) → sp vs H Q E →
      ∃ t, PSs (cxOf CX0 P w K mg base N qual (defScope st) f cdv A outer s H E).nox (defBody st) t ∧ t { nx := fun _ H' => Q .non H', rt := Q } (start N vs) H) : FnG P w K mg base CX0 (k + 1) f fd ps sp := by
  obtain ⟨oc, od, kV, doc, pm, an, cdv, ct, osl, rfl, lk, hcd⟩ := F.ex
  constructor
  · exact size
  intro A outer s H args us vs Q E gA room e0 bnd rel hsp
  have inK : K.In s.heap := e0.mod.kin.keeps (fun b o q => (e0.bs b o q).1)
  have nolim := e0.mod.nolimit.keeps (fun b o q => (e0.bs b o q).1)
  obtain ⟨t, ht, hq⟩ := body cdv A outer s H vs Q E gA (room.deeper _) hsp
  refine codeAny_call_function room.depth (inK f _ lk) rfl S.co S.gen rfl (PySem.W.codeRec_of inK hcd) (bnd _ _ _ _ ?_)
  refine wpAny_newFunctionEnv_cells S.kind ?par (fun env he s1 inC => ?run)
  case par =>
    rintro ⟨n, v⟩ hy
    rcases S.par n (List.of_mem_zip hy).1 with q | q
    · exact Or.inl q
    · exact Or.inr ⟨q, PySem.W.cellsFrom_some _ _ _ (Or.inl q)⟩
  case run =>
    cases he
    refine And.intro (nolim.keeps inC.toInCall.keep) (codeAny_func ?_)
    have I0 := inv_start (CX := CX0) (P := P) (w := w) (K := K) (mg := mg) (base := base) (E := E) S room.hd e0 (size _ _ _ _ hsp) rel inC
    refine wpAny_mono (ht.nox.run [] s1 (start N vs) H _ I0 hq) ?_ (fun _ _ z => z)
    rintro fl s' hs
    have close : ∀ (σ' : L2.St) (H' : Hp) (v : V) (u : Value), Inv (cxOf CX0 P w K mg base N qual (defScope st) f cdv A outer s H E) [] σ' H' s' → RelV v u → Q v H' → CE outer P w H s Q u s' := by
      intro σ' H' v u J rv q
      exact ⟨v, H', J.os, J.bare, J.base, J.hok, rv, q⟩
    cases fl
    case ret u => obtain ⟨v, σ', H', J, rv, q⟩ := hs; exact close _ _ _ _ J rv q
    case next => obtain ⟨σ', H', J, q⟩ := hs; exact close _ _ V.non Value.none J rfl q
    case brk => obtain ⟨_, _, _, q⟩ := hs; exact q.elim
    case cont => obtain ⟨_, _, _, q⟩ := hs; exact q.elim
end

section
variable {X : Cx} {CX : CXT} {k : Nat} {f : Addr} {fd : FuncData} {ps : List Str} {sp : Sp} {E : XK} {x : Str} {p pos : Pos} {e : Expr} {es : List Expr} {t : TA}
/-- its call -/
theorem pe_callG (F : FnG X.prog X.w X.K X.mg X.base CX k f fd ps sp) (hg : X.A.guards = some []) (hr : Room k X.A) (gx : Gl X x) (hm : X.mg x = some (.ref f)) (hk : PySem.W.keepIn X.K (.ref f) = true) (hb : Binds X.K fd ps []) (hx : Passes CX X E)
    (ha : PA X (e :: es) t) (hdb : (x == ("__debug__" : Str)) = false := by decide) (he : starEach (e :: es) X.env = (false, eval e X.env) :: starEach es X.env := by rfl) (hpl : (backTo pos (starEach es X.env)).any (·.1) = false := by rfl) :
    PE X (.Call (.Name x p) (e :: es) [] pos) (tCall sp [] E t) := by
  constructor
  intro pins s σ H Q I h
  refine wpAny_Call_Name_kw (ld_glob I gx hm (PySem.W.callWith_K (h₀ := X.base) I.ok.mod.kin hk (thn (ha.run pos pins s σ H _ I h) ?_) he hpl) hdb)
  rintro us s1 ⟨vs, H1, I1, r, q⟩
  refine ⟨I1.kIn, ?_⟩
  have q' : sp vs H1 Q E := by simpa using q
  have hl : us.length = ps.length := by
    rw [← r.length]
    exact F.size _ _ _ _ q'
  have hB := hb s1 us I1.kIn (by simpa using hl)
  rw [List.append_nil] at hB
  refine wpAny_call (codeAny_mono (F.go X.A X.stack s1 H1 ⟨us, []⟩ us vs Q E hg hr I1.env0 hB r q') ?_)
  rintro (er | fl) s2 hq
  · exact hx pins σ H1 s1 er s2 I1 hq
  · cases fl
    case ret u => exact I1.after hq
    case next => exact hq.elim
    case brk => exact hq.elim
    case cont => exact hq.elim
end

/-- a comprehension without a test -/
theorem yes_then {σ : L2.St} {H : Hp} {A B : Hp → Prop} (h : A H) : tYes σ H (fun b H3 => if b = true then A H3 else B H3) := by
  show (if true = true then A H else B H)
  rw [if_pos rfl]
  exact h

/-! ### the law's own call -/
/-- the abstract heap in which the script alone is tracked, as it stands -/
def scriptHp (a : Addr) (o : Obj) (xs : List V) : Hp := fun b => if b = a then some (.frz o (.lst xs)) else none
theorem scriptHp_at {a : Addr} {o : Obj} {xs : List V} : scriptHp a o xs a = some (.frz o (.lst xs)) := if_pos rfl
theorem scriptHp_some {a b : Addr} {o : Obj} {xs : List V} {u : HO} (h : scriptHp a o xs b = some u) : b = a ∧ u = .frz o (.lst xs) := by
  unfold scriptHp at h
  split at h
  · rename_i e
    exact ⟨e, (Option.some.inj h).symm⟩
  · cases h

theorem ns_hid {h : Heap} {H : Hp} {b : Addr} {m : Str → Option Value} (q : h.Ns b m) (hb : H b = none) : (hidT h H).Ns b m := by
  obtain ⟨o, es, ep, e, r⟩ := q
  exact ⟨o, es, ep, hidT_get e hb, r⟩

theorem law_callG {P : Program} {w : World} {K : PySem.W.Frag} {mg mb : Str → Option Value} {k : Nat} {fa a : Addr} {fd : FuncData} {x : Str} {sp : Sp} {s₁ : Shared} {vs : List Value} {ns : List Int}
    (KX : K.In s₁.heap) (hns : s₁.heap.Ns mainGlobals mg) (hb : s₁.heap.Ns builtinsNs mb) (hbb : ∀ x : Str, x ≠ "__name__" → mb x = bootBuiltins x) (hlim : s₁.heap.NoLimit) (hg : s₁.gens = #[])
    (ha : s₁.heap.get? a = some { cls := .type "list", data := .seq vs.toArray }) (hi : IntsAre vs ns) (hl : ns.length ≤ sizeLine) (hr : Room k callerA)
    (F : ∀ base : Heap, K.In base → base.Ns mainGlobals mg → FnG P w K mg base CX0 k fa fd [x] sp) (hbind : ∀ (s : Shared) (u : Value), BindsTo s fd ⟨[u], []⟩ [(x, u)])
    (hsp : ∀ H : Hp, Only H → SqL K H a (ns.map V.int) → sp [.ref a] H (fun v _ => v = .bl true) fun _ _ _ => False) :
    codeAny (model P w) callerA (.call (.ref fa) ⟨[.ref a], []⟩) (fun r s' => r = .ok (.ret (.bool true)) ∧ OldK s₁.heap s'.heap ∧ s'.os = s₁.os ∧ AllBare s'.gens) s₁ := by
  have main : ∀ H : Hp, Only H → SqL K H a (ns.map V.int) → HOk P w H s₁.heap → (∀ b u, H b = some u → b = a ∧ K.lookup a = none) →
      codeAny (model P w) callerA (.call (.ref fa) ⟨[.ref a], []⟩) (fun r s' => r = .ok (.ret (.bool true)) ∧ OldK s₁.heap s'.heap ∧ s'.os = s₁.os ∧ AllBare s'.gens) s₁ := by
    intro H only seq ok one
    have free : ∀ b, (∀ o n, s₁.heap.get? b = some o → o.data ≠ .seq vs.toArray n) → H b = none := by
      intro b nb
      cases q : H b with
      | none => rfl
      | some u =>
        obtain ⟨rfl, _⟩ := one b u q
        exact absurd rfl (nb _ _ ha)
    have freeD : ∀ {b : Addr} {m : Str → Option Value}, s₁.heap.Ns b m → H b = none := by
      rintro b m ⟨o, es, ep, e, d, _⟩
      refine free b fun o' n e' d' => ?_
      rw [e] at e'
      cases e'
      rw [d] at d'
      cases d'
    have inB : K.In (hidT s₁.heap H) := by
      intro b o e
      refine hidT_get (KX b o e) ?_
      cases q : H b with
      | none => rfl
      | some u =>
        obtain ⟨rfl, z⟩ := one b u q
        rw [z] at e
        cases e
    have gB := ns_hid hns (freeD hns)
    have md : Mod K mg (hidT s₁.heap H) := by
      refine ⟨inB, gB, ⟨mb, ns_hid hb (freeD hb), hbb⟩, ?_⟩
      obtain ⟨mc, h1, h2⟩ := hlim
      exact ⟨mc, ns_hid h1 (freeD h1), h2⟩
    have start0 : Env0 P w K mg (hidT s₁.heap H) callerA [] s₁ H := by
      constructor
      · rfl
      · exact md
      · exact fun b o e => of_hidT e
      · exact Nat.le_of_eq (hidT_size _ _)
      · trivial
      · intro b hb
        exact absurd (show b ∈ ([] : List Addr) from hb) (by simp)
      · exact ok
      · exact .of_eq hg
    have run := (F _ inB gB).go callerA [] s₁ H ⟨[.ref a], []⟩ [.ref a] [.ref a] (fun v _ => v = .bl true) (fun _ _ _ => False) rfl hr start0 (hbind s₁ (.ref a)) (.cons rfl .nil) (hsp H only seq)
    refine codeAny_mono run ?_
    rintro (er | fl) s' h
    · exact False.elim h
    cases fl with
    | next => exact False.elim h
    | brk => exact False.elim h
    | cont => exact False.elim h
    | ret u =>
      obtain ⟨v, H', os, bare, un, ok', rv, q⟩ := h
      cases (show v = .bl true from q)
      cases (show u = Value.bool true from rv)
      refine ⟨rfl, OldK.of_keep ?_, os, bare⟩
      intro b o e
      cases z : H b with
      | none => exact un.keep b o e z (fun m => absurd (show b ∈ ([] : List Addr) from m) (by simp)) (by simp)
      | some u =>
        rcases only b with z' | ⟨ob, xs, z'⟩
        · rw [z] at z'
          cases z'
        · have e1 := (ok b _ z').1
          have e2 := (ok' b _ (un.frzs b ob _ z')).1
          rw [e] at e1
          rw [e1]
          exact e2
  have rv := vals_ints hi
  cases hk : K.lookup a with
  | some o =>
    have e := KX a o hk
    rw [ha] at e
    cases e
    refine main (fun _ => none) (fun _ => .inl rfl) (.inr ⟨_, vs.toArray, _, hk, rfl, rfl, rfl, ?_, by simpa using rv⟩) ?_ ?_
    · rw [List.size_toArray, hi.length]
      exact hl
    · intro b u z
      cases z
    · intro b u z
      cases z
  | none =>
    refine main (scriptHp a { cls := .type "list", data := .seq vs.toArray } (ns.map V.int)) ?_ (.inl (.inr ⟨_, scriptHp_at⟩)) ?_ ?_
    · intro b
      cases z : scriptHp a { cls := .type "list", data := .seq vs.toArray } (ns.map V.int) b with
      | none => exact .inl rfl
      | some u => exact .inr ⟨_, _, by rw [(scriptHp_some z).2]⟩
    · intro b u z
      obtain ⟨rfl, rfl⟩ := scriptHp_some z
      refine ⟨ha, ?_, vs, _, rv, ha⟩
      rw [List.length_map]
      exact hl
    · intro b u z
      exact ⟨(scriptHp_some z).1, hk⟩

theorem walk_g {l : PySem.W.OpenLaw} {n k : Nat} {q : Program} {loose : List Str} {XP : (Str → Option Value) → Heap → Prop} {YP : World → Heap → Prop} {d : DefRec} {K : Params → PySem.W.Frag} {sp : PySem.W.Frag → Sp} {x : Str}
    (hn : l.most = some n) (hn2 : n ≤ sizeLine) (hdf : d.params.defaults = []) (hr : Room k callerA)
    (hY : ∀ (w : World) (h : Heap), YP w h → (K w.params).In h)
    (F : ∀ (w : World) (mg : Str → Option Value) (fa : Addr) (h : Heap), (K w.params).In h → h.Ns mainGlobals mg → mg d.name = some (.ref fa) →
      ∃ fd : FuncData, (∀ (s : Shared) (u : Value), BindsTo s fd ⟨[u], []⟩ [(x, u)]) ∧
        ∀ base : Heap, (K w.params).In base → base.Ns mainGlobals mg → FnG l.prog w (K w.params) mg base CX0 k fa fd [x] (sp (K w.params)))
    (hsp : ∀ (K : PySem.W.Frag) (H : Hp) (a : Addr) (ns : List Int), ns.length ≤ n → Only H → SqL K H a (ns.map V.int) → sp K [.ref a] H (fun v _ => v = .bl true) fun _ _ _ => False) :
    PySem.W.WalkO q loose XP YP l.row.toRowW d [] (fun f vs => PySem.call f vs) := by
  apply Att.attach_call hn hdf
  intro w s₀ s₁ mg mb fa o pm cd doc a vs ns G Y ho hd hcd hmg hobj hints hlen hg
  obtain ⟨fd, bnd, keeps⟩ := F w mg fa _ (hY w _ Y) G.T.g hmg
  exact law_callG (hY w _ Y) G.T.g G.T.b G.T.builtins G.T.nolimit hg hobj hints (Nat.le_trans hlen hn2) hr keeps bnd (fun H => hsp _ H a ns hlen)
end GR

namespace K6
open PySem PySem.Spec PyProof.Rows L2 GR
abbrev LIM : Int := 1000000000000000000
def topS (i : Nat) : Stmt := PySem.Challenge.pw_lookdone_k06_plain_closed_simple_keyed.main.body.getD i (.Pass ⟨0, 0, 0, 0⟩)
theorem same_upd {H : Hp} {p : Addr} {o : HO} (h : H p = none) : Same H (upd H p o) := fun b x e => by
  rw [upd_ne (ne_of_none e h)]
  exact e
theorem le2 : 2 ≤ sizeLine := by decide
theorem at0 {xs : List V} {v : V} : atI (v :: xs) 0 = some v := atI_nat (j := 0) rfl
theorem at1 {xs : List V} {v u : V} : atI (u :: v :: xs) 1 = some v := atI_nat (j := 1) rfl
theorem at2 {xs : List V} {v u t : V} : atI (t :: u :: v :: xs) 2 = some v := atI_nat (j := 2) rfl
theorem at3 {xs : List V} {v u t s : V} : atI (s :: t :: u :: v :: xs) 3 = some v := atI_nat (j := 3) rfl
/-! ### the law's deck -/
/-- the deck at d: the cells at c, a number, the count of draws, at most N -/
def Deck (H : Hp) (d c : Addr) (N : Int) : Prop := ∃ (cells : List Int) (m n : Int), H d = some (.lst [.ref c, .int m, .int n]) ∧ H c = some (.lst (cells.map V.int)) ∧ cells.length ≤ 63 ∧ 0 ≤ n ∧ n ≤ N
theorem Deck.ne {H : Hp} {d c : Addr} {N : Int} (h : Deck H d c N) : c ≠ d := by
  obtain ⟨cells, m, n, h1, h2, _⟩ := h
  rintro rfl
  rw [h1] at h2
  have e := HO.lst.inj (Option.some.inj h2)
  cases cells with
  | nil => cases e
  | cons x r =>
    have := (List.cons.inj e).1
    cases this
theorem Deck.mono {H : Hp} {d c : Addr} {N M : Int} (h : Deck H d c N) (hm : N ≤ M) : Deck H d c M := by
  obtain ⟨cells, m, n, h1, h2, h3, h4, h5⟩ := h
  exact ⟨cells, m, n, h1, h2, h3, h4, Int.le_trans h5 hm⟩
/-- all but the deck is as it was -/
def Keep (d c : Addr) (H H' : Hp) : Prop := ∀ b o, b ≠ d → b ≠ c → H b = some o → H' b = some o
theorem Keep.refl {d c : Addr} {H : Hp} : Keep d c H H := fun _ _ _ _ e => e
theorem Keep.trans {d c : Addr} {H H1 H2 : Hp} (a : Keep d c H H1) (b : Keep d c H1 H2) : Keep d c H H2 := fun x o h1 h2 e => b x o h1 h2 (a x o h1 h2 e)
theorem Keep.of {d c : Addr} {H H' : Hp} (s : Same H H') : Keep d c H H' := fun b o _ _ e => s b o e
theorem Deck.same {H H' : Hp} {d c : Addr} {N : Int} (h : Deck H d c N) (s : Same H H') : Deck H' d c N := by
  obtain ⟨cells, m, n, h1, h2, h3⟩ := h
  exact ⟨cells, m, n, s _ _ h1, s _ _ h2, h3⟩
/-- a tuple, a list that is not the deck's stays -/
theorem Keep.tup {d c p : Addr} {H H' : Hp} {N : Int} {xs : List V} (s : Keep d c H H') (D : Deck H d c N) (h : H p = some (.tup xs)) : H' p = some (.tup xs) := by
  obtain ⟨cells, m, n, h1, h2, _⟩ := D
  exact s p _ (ne_of h h1 (fun z => by cases z)) (ne_of h h2 (fun z => by cases z)) h
theorem dp_ints {K : PySem.W.Frag} {H : Hp} : ∀ ns : List Int, DpAll K H (ns.map V.int) (ns.map PyData.int)
  | [] => .nil
  | n :: ns => .cons (.int n) (dp_ints ns)
theorem lay_ints : ∀ ns : List Int, PyData.canLayAll0 (ns.map PyData.int) = true
  | [] => by simp only [List.map_nil, PyData.canLayAll0]
  | n :: ns => by simp only [List.map_cons, PyData.canLayAll0, PyData.canLay0, lay_ints ns, Bool.and_self]
theorem depth_ints : ∀ ns : List Int, PyData.depthAll (ns.map PyData.int) ≤ 1
  | [] => by simp only [List.map_nil, PyData.depthAll]; omega
  | n :: ns => by
    have := depth_ints ns
    simp only [List.map_cons, PyData.depthAll, PyData.depth]
    omega
theorem shaped_ints (ns : List Int) : SeqAt.shaped (.list (ns.map PyData.int)) = true := by
  have := depth_ints ns
  unfold SeqAt.shaped
  rw [Bool.and_eq_true]
  refine ⟨by simp only [PyData.canLay0, lay_ints], decide_eq_true ?_⟩
  simp only [PyData.depth]
  omega
theorem neq_nil : ∀ ns : List Int, (!PyData.eqv (.list (ns.map PyData.int)) (.list [])) = !ns.isEmpty
  | [] => by simp only [List.map_nil, PyData.eqv, PyData.eqvAll, List.isEmpty_nil]
  | n :: ns => by simp only [List.map_cons, PyData.eqv, PyData.eqvAll, List.isEmpty_cons]

def num1 (z n : Int) : Int := (z % 2147483629 + 8527 * (n + 1) * (n + 1) + 59) * 48271 % 2147483647
theorem num1_rng (z n : Int) : -(2 ^ 64) < num1 z n ∧ num1 z n < 2 ^ 64 := by
  unfold num1
  omega
def num2 (x n : Int) : Int := (x * x + 69621 * x + (n + 1)) % 2147483587
theorem num2_rng (x n : Int) : -(2 ^ 64) < num2 x n ∧ num2 x n < 2 ^ 64 := by
  unfold num2
  omega

section
variable {P : Program} {w : World} {K : PySem.W.Frag} {mg : Str → Option Value} {base : Heap}
abbrev s_law_draw : Stmt := topS 21
theorem sc_law_draw : FnScope ["_law_deck_here", "_law_most", "_law_cell", "_law_number"] ["_law_deck_here", "_law_most"] (defScope s_law_draw) := ⟨rfl, rfl, rfl, by decide +kernel, rfl, by decide +kernel, by decide +kernel⟩
def sp_draw : Sp := fun vs H Q _ => ∃ (d c : Addr) (N most : Int), vs = [.ref d, .int most] ∧ Deck H d c N ∧ N < 2 ^ 60 ∧ 0 < most ∧ most < 2 ^ 100 ∧
  ∀ H' r, Keep d c H H' → Deck H' d c (N + 1) → 0 ≤ r → r < most → Q (.int r) H'
theorem ok_draw {f : Addr} {fd : FuncData} {k : Nat} (F : Fun K "_law_draw" "_law_draw" s_law_draw f fd) :
    FnOk P w K mg base CX0 (k + 1) f fd ["_law_deck_here", "_law_most"] sp_draw := by
  have nd := sc_law_draw.nd
  refine F.ok sc_law_draw (fun vs H Q E h => ?_) (fun cdv A outer s H vs Q E hr h => ?_)
  · obtain ⟨d, c, N, most, rfl, _⟩ := h
    rfl
  obtain ⟨d, c, N, most, rfl, D, hN, hm0, hm1, q⟩ := h
  have hcd := D.ne
  obtain ⟨cells, m, n, hd, hc, hlen, hn0, hn1⟩ := D
  refine ⟨_, (pss_cons (ps_asg (pe_op op_add (pe_ix ix_list (pv 0) pe_int (fun _ _ => rfl)) pe_int) (pg_sub (pv 0) pe_int set_list))
      (pss_cons (ps_set (i := 2) nd rfl (.inl rfl) (pe_ix ix_list (pv 0) pe_int (fun _ _ => rfl)))
      (Evl.pss_cut (ps_if (pt_cmpR (op_neD hr.units) (pe_ix ix_list (pv 0) pe_int (fun _ _ => rfl)) (pe_lst pa_nil) (nomark _))
      (pss_cons (ps_set (i := 2) nd rfl (.inl rfl) (pe_bm0 PySem.F.plainAttrs_list PySem.F.slot_list_pop PySem.F.type_list_pop mt_pop (pe_ix ix_list (pv 0) pe_int (fun _ _ => rfl))))
        (pss_one (ps_if (pt_cmpR op_ge (pv 2) (pe_op op_pow pe_int pe_int) (nomark _))
        (pss_cons (ps_expr (pe_bm PySem.F.plainAttrs_list PySem.F.slot_list_append PySem.F.type_list_append mt_append (pe_ix ix_list (pv 0) pe_int (fun _ _ => rfl)) (pa_cons (pe_op op_fdivW (pv 2) (pv 1)) pa_nil)))
          (pss_one (ps_ret (pe_op op_mod (pv 2) (pv 1)))))
        pss_nil)))
      pss_nil)
      (pss_cons (ps_set (i := 3) nd rfl (.inl rfl) (pe_op op_mod (pe_op op_mul (pe_op op_add (pe_op op_add (pe_op op_mod (pv 2) pe_int) (pe_op op_mul (pe_op op_mul pe_int (pe_ix ix_list (pv 0) pe_int (fun _ _ => rfl))) (pe_ix ix_list (pv 0) pe_int (fun _ _ => rfl)))) pe_int) pe_int) pe_int))
      (pss_cons (ps_set (i := 3) nd rfl (.inl rfl) (pe_op op_mod (pe_op op_add (pe_op op_add (pe_op op_mul (pv 3) (pv 3)) (pe_op op_mul pe_int (pv 3))) (pe_ix ix_list (pv 0) pe_int (fun _ _ => rfl))) pe_int))
      (pss_one (ps_ret (pe_op op_mod (pe_op op_fdivW (pe_op op_mod (pe_op op_mul (pv 3) (pe_op op_add (pe_op op_fdivW (pv 3) pe_int) pe_int)) pe_int) pe_int) (pv 1))))))))), ?_⟩
  refine ⟨.ref d, rfl, d, _, 2, _, rfl, rfl, .inl (.inl hd), at2, _, _, rfl, rfl, .ref d, rfl, d, _, 2, 2, rfl, rfl, hd, rfl, ?_⟩
  -- the deck with one draw more
  have h1d : upd H d (.lst [.ref c, .int m, .int (n + 1)]) d = some (.lst [.ref c, .int m, .int (n + 1)]) := upd_same
  have h1c : upd H d (.lst [.ref c, .int m, .int (n + 1)]) c = some (.lst (cells.map V.int)) := by
    rw [upd_ne hcd]
    exact hc
  have k1 : Keep d c H (upd H d (.lst [.ref c, .int m, .int (n + 1)])) := fun b o nb _ e => by
    rw [upd_ne nb]
    exact e
  refine ⟨.ref d, rfl, d, _, 1, _, rfl, rfl, .inl (.inl h1d), at1, ?_⟩
  have wd : CDivW 0 most := wide_div hm0 (b := 100) (by omega) (by decide) (by decide)
  refine ⟨fun σ' H' => ∃ (z : Int) (cells' : List Int), σ' = [some (.ref d), some (.int most), some (.int z), none] ∧ Keep d c H H' ∧ H' d = some (.lst [.ref c, .int m, .int (n + 1)]) ∧ H' c = some (.lst (cells'.map V.int)) ∧ cells'.length ≤ 63, ?_, ?_⟩
  · refine ⟨.ref d, rfl, d, _, 0, _, rfl, rfl, .inl (.inl h1d), at0, Nat.zero_le _, fun e ne => ?_⟩
    have s2 : Same (upd H d (.lst [.ref c, .int m, .int (n + 1)])) (upd (upd H d (.lst [.ref c, .int m, .int (n + 1)])) e (.lst [])) := same_upd ne
    have h2d := s2 _ _ h1d
    have h2c := s2 _ _ h1c
    have k2 := k1.trans (Keep.of s2)
    refine ⟨_, _, .lst (.inl (.inl h2c)) (dp_ints cells), .lst (.inl (.inl upd_same)) .nil, shaped_ints cells, shaped_ints [], _, rfl, ?_⟩
    rw [neq_nil]
    cases hcs : cells with
    | nil => exact iteF ⟨m, cells, rfl, k2, h2d, h2c, hlen⟩
    | cons x0 r0 =>
      refine iteT ?_
      have hne : cells ≠ [] := by
        rw [hcs]
        exact List.cons_ne_nil _ _
      have hlast : (cells.map V.int)[(cells.map V.int).length - 1]? = some (.int (cells.getLast hne)) := by
        rw [List.length_map, List.getElem?_map, ← List.getLast?_eq_getElem?, List.getLast?_eq_getLast hne]
        rfl
      refine ⟨.ref d, rfl, d, _, 0, _, rfl, rfl, .inl (.inl h2d), at0, .inl ⟨rfl, _, .inl (.inl h2c)⟩, c, _, _, rfl, rfl, h2c, hlast, ?_⟩
      have hdrop : (cells.map V.int).dropLast = cells.dropLast.map V.int := by rw [List.map_dropLast]
      rw [hdrop]
      have h3d : upd (upd (upd H d (.lst [.ref c, .int m, .int (n + 1)])) e (.lst [])) c (.lst (cells.dropLast.map V.int)) d = some (.lst [.ref c, .int m, .int (n + 1)]) := by
        rw [upd_ne hcd.symm]
        exact h2d
      have h3c : upd (upd (upd H d (.lst [.ref c, .int m, .int (n + 1)])) e (.lst [])) c (.lst (cells.dropLast.map V.int)) c = some (.lst (cells.dropLast.map V.int)) := upd_same
      have k3 : Keep d c H (upd (upd (upd H d (.lst [.ref c, .int m, .int (n + 1)])) e (.lst [])) c (.lst (cells.dropLast.map V.int))) := fun b o n1 n2 e1 => by
        rw [upd_ne n2]
        exact k2 b o n1 n2 e1
      have l3 : cells.dropLast.length + 1 ≤ 63 := by
        rw [List.length_dropLast, hcs, List.length_cons]
        rw [hcs, List.length_cons] at hlen
        omega
      generalize cells.getLast hne = z
      refine ⟨.int z, rfl, _, _, rfl, rfl, ⟨by decide, by decide, by decide⟩, _, _, rfl, rfl, _, rfl, ite2 (fun e5 => ?_) (fun e5 => ?_)⟩
      · refine ⟨.ref d, rfl, d, _, 0, _, rfl, rfl, .inl (.inl h3d), at0, .inl ⟨rfl, _, .inl (.inl h3c)⟩, .int z, rfl, .int most, rfl, z, most, rfl, rfl, wd, c, _, _, rfl, rfl, h3c, ?_, ?_⟩
        · rw [List.length_map]
          exact small1000 (by omega)
        · refine ⟨.int z, rfl, .int most, rfl, z, most, rfl, rfl, hm0, ?_⟩
          refine q _ _ ?_ ?_ (Int.emod_nonneg _ (by omega)) (Int.emod_lt_of_pos _ hm0)
          · intro b o n1 n2 e1
            rw [upd_ne n2]
            exact k3 b o n1 n2 e1
          · refine ⟨cells.dropLast ++ [z / most], m, n + 1, ?_, ?_, ?_, by omega, by omega⟩
            · rw [upd_ne hcd.symm]
              exact h3d
            · rw [upd_same, List.map_append]
              rfl
            · rw [List.length_append, List.length_singleton]
              exact l3
      · exact ⟨z, cells.dropLast, rfl, k3, h3d, h3c, by omega⟩
  · rintro σ' H' ⟨z, cells', rfl, kk, h5d, h5c, hl5⟩
    have hn2 : -(2 ^ 64) < n + 1 ∧ n + 1 < 2 ^ 64 := by omega
    refine ⟨.int z, rfl, z, 2147483629, rfl, rfl, (show (0 : Int) < 2147483629 by decide), .ref d, rfl, d, _, 2, _, rfl, rfl, .inl (.inl h5d), at2, 8527, n + 1, rfl, rfl, .inl ⟨by decide, by decide⟩, .ref d, rfl, d, _, 2, _, rfl, rfl, .inl (.inl h5d), at2, 8527 * (n + 1), n + 1, rfl, rfl, .inr hn2, _, _, rfl, rfl, _, _, rfl, rfl, _, 48271, rfl, rfl, .inr ⟨by decide, by decide⟩, _, 2147483647, rfl, rfl, (show (0 : Int) < 2147483647 by decide), ?_⟩
    have b1 := num1_rng z n
    refine ⟨.int (num1 z n), rfl, .int (num1 z n), rfl, num1 z n, num1 z n, rfl, rfl, .inl b1, .int (num1 z n), rfl, 69621, num1 z n, rfl, rfl, .inr b1, _, _, rfl, rfl, .ref d, rfl, d, _, 2, _, rfl, rfl, .inl (.inl h5d), at2, _, _, rfl, rfl, _, 2147483587, rfl, rfl, (show (0 : Int) < 2147483587 by decide), ?_⟩
    have b2 := num2_rng (num1 z n) n
    refine ⟨.int (num2 (num1 z n) n), rfl, .int (num2 (num1 z n) n), rfl, num2 (num1 z n) n, 5, rfl, rfl, ⟨by decide, by decide⟩, _, _, rfl, rfl, num2 (num1 z n) n, _, rfl, rfl, .inl b2, _, 2147483579, rfl, rfl, (show (0 : Int) < 2147483579 by decide), _, 64, rfl, rfl, ⟨by decide, by decide⟩, .int most, rfl, _, most, rfl, rfl, hm0, ?_⟩
    exact q _ _ kk ⟨cells', m, n + 1, h5d, h5c, hl5, by omega, by omega⟩ (Int.emod_nonneg _ (by omega)) (Int.emod_lt_of_pos _ hm0)
end
theorem Keep.seq {K : PySem.W.Frag} {d c a : Addr} {H H' : Hp} {xs : List V} (s : Keep d c H H') (h : SqL K H a xs) (h1 : a ≠ d) (h2 : a ≠ c) : SqL K H' a xs := by
  rcases h with (h | ⟨o, h⟩) | h
  · exact .inl (.inl (s _ _ h1 h2 h))
  · exact .inl (.inr ⟨o, s _ _ h1 h2 h⟩)
  · exact .inr h
theorem cut63 (ns : List Int) : ∃ ms : List Int, cutV (ns.map V.int) none (some 63) = ms.map V.int ∧ ms.length ≤ 63 := by
  refine ⟨ns.take (min 63 ns.length), ?_, ?_⟩
  · unfold cutV
    rw [HT.sIx_none, show HT.sIx (ns.map V.int).length (ns.map V.int).length (some 63) = min 63 (ns.map V.int).length from HT.sIx_nat _ _ 63, List.drop_zero, List.map_take, List.length_map, Nat.sub_zero]
  · rw [List.length_take]
    omega
theorem small_le {n : Nat} (h : n ≤ 1000) : n ≤ sizeLine := Nat.le_of_lt (small1000 h)
section
variable {P : Program} {w : World} {K : PySem.W.Frag} {mg : Str → Option Value} {base : Heap}
abbrev s_law_deck : Stmt := topS 20
theorem sc_law_deck : FnScope ["_law_script", "_law_cells"] ["_law_script"] (defScope s_law_deck) := ⟨rfl, rfl, rfl, by decide +kernel, rfl, by decide +kernel, by decide +kernel⟩
def sp_deck (K : PySem.W.Frag) : Sp := fun vs H Q _ => ∃ (a : Addr) (ns : List Int), vs = [.ref a] ∧ SqL K H a (ns.map V.int) ∧ ∀ H' d c, Same H H' → H d = none → Deck H' d c 0 → Q (.ref d) H'
theorem ok_deck {f : Addr} {fd : FuncData} {k : Nat} (F : Fun K "_law_deck" "_law_deck" s_law_deck f fd) (mlist : mg "list" = none) (msum : mg "sum" = none) (mlen : mg "len" = none) :
    FnOk P w K mg base CX0 (k + 1) f fd ["_law_script"] (sp_deck K) := by
  have nd := sc_law_deck.nd
  refine F.ok sc_law_deck (fun vs H Q E h => ?_) (fun cdv A outer s H vs Q E hr h => ?_)
  · obtain ⟨a, ns, rfl, _⟩ := h
    rfl
  obtain ⟨a, ns, rfl, hS, q⟩ := h
  obtain ⟨ms, hms, hl⟩ := cut63 ns
  refine ⟨_, (pss_cons (ps_set (i := 1) nd rfl (.inl rfl) (pe_callTy call_list_of (by rfl) mlist boot_list (pa_cons (pe_slice sl_list (pv 0) po_none (po_some pe_int)) pa_nil)))
      (pss_one (ps_ret (pe_lst (pa_cons (pe_revL (pv 1)) (pa_cons (pe_op op_add (pe_op op_mod (pe_callB (cr_sum rfl) (by rfl) msum boot_sum (pa_cons (pv 1) pa_nil)) pe_int) (pe_op op_mul pe_int (pe_callB call_len_seq (by rfl) mlen PySem.boot_len (pa_cons (pv 1) pa_nil)))) (pa_cons pe_int pa_nil))))))), ?_⟩
  refine ⟨.ref a, rfl, 63, rfl, a, _, rfl, hS, fun p np => ?_⟩
  rw [hms]
  have s1 : Same H (upd H p (.lst (ms.map V.int))) := same_upd np
  refine ⟨p, _, rfl, .inl (.inl (.inl upd_same)), fun l nl => ?_⟩
  have s2 := same_upd (o := .lst (ms.map V.int)) nl
  have hl2 : SqL K (upd (upd H p (.lst (ms.map V.int))) l (.lst (ms.map V.int))) l (ms.map V.int) := .inl (.inl upd_same)
  refine ⟨.ref l, rfl, l, _, rfl, hl2, fun c nc => ?_⟩
  have s3 := same_upd (o := .lst (ms.map V.int).reverse) nc
  refine ⟨.ref l, rfl, l, ms, rfl, s3.seq hl2, _, 2147483629, rfl, rfl, (show (0 : Int) < 2147483629 by decide), .ref l, rfl, l, _, rfl, .inl (s3.seq hl2), 48271, _, rfl, rfl, .inl ⟨by decide, by decide⟩, _, _, rfl, rfl, small_le (show 3 ≤ 1000 by decide), fun d nd' => ?_⟩
  refine q _ d c ((s1.trans s2).trans (s3.trans (same_upd nd'))) ?_ ?_
  · exact s1.free (s2.free (s3.free nd'))
  · refine ⟨ms.reverse, _, 0, upd_same, ?_, ?_, Int.le_refl 0, Int.le_refl 0⟩
    · have : c ≠ d := ne_of_none (show upd _ c _ c = _ from upd_same) nd'
      rw [upd_ne this, upd_same, List.map_reverse]
    · rw [List.length_reverse]
      exact hl
end
theorem Deck.new {H : Hp} {d c a : Addr} {N : Int} (D : Deck H d c N) (na : H a = none) : a ≠ d ∧ a ≠ c := by
  obtain ⟨cells, m, n, h1, h2, _⟩ := D
  exact ⟨(ne_of_none h1 na).symm, (ne_of_none h2 na).symm⟩
theorem Keep.free {d c a : Addr} {H H' : Hp} (s : Keep d c H H') (na : H' a = none) (h1 : a ≠ d) (h2 : a ≠ c) : H a = none := by
  cases q : H a with
  | none => rfl
  | some o =>
    rw [s a o h1 h2 q] at na
    cases na
end K6

namespace K6
open PySem PySem.Spec PyProof.Rows L2 GR
abbrev L26 : Str := "abcdefghijklmnopqrstuvwxyz"
def sgn (c : Nat) : Str := ⟨#[c]⟩
theorem l26_len : L26.length = 26 := by decide
theorem l26_at : ∀ k, k < 26 → L26.cps.toList[k]? = some (97 + k) := by decide
theorem l26_occ : ∀ k, k < 26 → Builtin.Str.occurrences L26 (sgn (97 + k)) 0 L26.length 1 = [k] := by decide +kernel
def Low (c : Nat) : Prop := 97 ≤ c ∧ c ≤ 122
/-- the words that are no names -/
def barred : List Str := ["key", "if", "at", "count", "sum", "most", "first", "let", "need", "put", "each", "tell"]
/-- a name -/
def Nm (z : Str) : Prop := 1 ≤ z.cps.toList.length ∧ z.cps.toList.length ≤ 8 ∧ (∀ c, c ∈ z.cps.toList → Low c) ∧ z ∉ barred
theorem nm_lit {z : Str} (h : (decide (1 ≤ z.cps.toList.length) && decide (z.cps.toList.length ≤ 8) && z.cps.toList.all (fun c => decide (97 ≤ c) && decide (c ≤ 122)) && decide (z ∉ barred)) = true) : Nm z := by
  simp only [Bool.and_eq_true, decide_eq_true_eq, List.all_eq_true] at h
  obtain ⟨⟨⟨h1, h2⟩, h3⟩, h4⟩ := h
  exact ⟨h1, h2, fun c hc => h3 c hc, h4⟩
theorem barred_q : ∀ z, z ∈ barred → z.cps.toList.head? ≠ some 113 := by decide
/-- the text of single signs, joined -/
theorem join_signs : ∀ cs : List Nat, (Txt.join Str.empty (cs.map sgn)).cps.toList = cs := by
  intro cs
  have hj : ∀ cs : List Nat, TL.joinL [] (cs.map fun c => [c]) = cs := by
    intro cs
    induction cs with
    | nil => rfl
    | cons a r ih =>
      cases r with
      | nil => rfl
      | cons b r =>
        show [a] ++ ([] ++ TL.joinL [] ((b :: r).map fun c => [c])) = a :: b :: r
        rw [ih]
        rfl
  have := TL.tl_join Str.empty (cs.map sgn)
  rw [List.map_map] at this
  rw [TL.join_eq]
  exact this.trans (hj cs)
section
variable {P : Program} {w : World} {K : PySem.W.Frag} {mg : Str → Option Value} {base : Heap}
abbrev s_law_pick : Stmt := topS 22
theorem sc_law_pick : FnScope ["_law_deck_here", "_law_some"] ["_law_deck_here", "_law_some"] (defScope s_law_pick) := ⟨rfl, rfl, rfl, by decide +kernel, rfl, by decide +kernel, by decide +kernel⟩
/-- a pick from a list, or from the letters -/
def sp_pick (K : PySem.W.Frag) : Sp := fun vs H Q _ =>
  (∃ (d c a : Addr) (N : Int) (xs : List V), vs = [.ref d, .ref a] ∧ Deck H d c N ∧ N < 2 ^ 60 ∧ SqL K H a xs ∧ xs ≠ [] ∧ xs.length ≤ 1000 ∧ a ≠ d ∧ a ≠ c ∧ ∀ H' v, Keep d c H H' → Deck H' d c (N + 1) → v ∈ xs → Q v H') ∨
  (∃ (d c : Addr) (N : Int), vs = [.ref d, .str L26] ∧ Deck H d c N ∧ N < 2 ^ 60 ∧ ∀ H' k, Keep d c H H' → Deck H' d c (N + 1) → k < 26 → Q (.str (sgn (97 + k))) H')
theorem ok_pick {f f_law_draw : Addr} {fd fd_law_draw : FuncData} {k : Nat} (F : Fun K "_law_pick" "_law_pick" s_law_pick f fd) (G_law_draw : FnOk P w K mg base CX0 k f_law_draw fd_law_draw ["_law_deck_here", "_law_most"] sp_draw)
    (g_law_draw : mg "_law_draw" = some (.ref f_law_draw)) (K_law_draw : PySem.W.keepIn K (.ref f_law_draw) = true) (b_law_draw : Binds K fd_law_draw ["_law_deck_here", "_law_most"] []) (mlen : mg "len" = none) :
    FnOk P w K mg base CX0 (k + 1) f fd ["_law_deck_here", "_law_some"] (sp_pick K) := by
  have nd := sc_law_pick.nd
  refine F.ok sc_law_pick (fun vs H Q E h => ?_) (fun cdv A outer s H vs Q E hr h => ?_)
  · rcases h with ⟨d, c, a, N, xs, rfl, _⟩ | ⟨d, c, N, rfl, _⟩ <;> rfl
  refine ⟨_, (pss_one (ps_ret (pe_ix ix_seq (pv 1) (pe_call G_law_draw hr (by rfl) g_law_draw K_law_draw b_law_draw .nil pass0 (pa_cons (pv 0) (pa_cons (pe_callB call_len (by rfl) mlen PySem.boot_len (pa_cons (pv 1) pa_nil)) pa_nil))) (fun _ _ => rfl)))), ?_⟩
  rcases h with ⟨d, c, a, N, xs, rfl, D, hN, hS, hne, hlen, had, hac, q⟩ | ⟨d, c, N, rfl, D, hN, q⟩
  · have hpos : 0 < xs.length := List.length_pos_iff.mpr hne
    refine ⟨.ref a, rfl, .ref d, rfl, .ref a, rfl, .ref a, xs.length, rfl, .inl ⟨xs, hS, rfl⟩, d, c, N, (xs.length : Int), rfl, D, hN, by omega, by omega, fun H' r kp D' r0 r1 => ?_⟩
    obtain ⟨j, rfl⟩ := Int.eq_ofNat_of_zero_le r0
    have hj : j < xs.length := by omega
    exact .inl ⟨a, xs, j, xs[j], rfl, rfl, kp.seq hS had hac, atI_nat (List.getElem?_eq_getElem hj), q H' _ kp D' (List.getElem_mem hj)⟩
  · refine ⟨.str L26, rfl, .ref d, rfl, .str L26, rfl, .str L26, 26, rfl, ⟨by rw [l26_len]; decide, l26_len.symm⟩, d, c, N, 26, rfl, D, hN, by decide, by decide, fun H' r kp D' r0 r1 => ?_⟩
    obtain ⟨j, rfl⟩ := Int.eq_ofNat_of_zero_le r0
    have hj : j < 26 := by omega
    exact .inr (.inr ⟨L26, j, 97 + j, rfl, rfl, by rw [l26_len]; decide, atI_nat (l26_at j hj), q H' j kp D' hj⟩)
end
end K6

namespace K6
open PySem PySem.Spec PyProof.Rows L2 GR
/-- lists of texts of single signs -/
def sg (cs : List Nat) : List V := (cs.map sgn).map V.str
theorem sg_length (cs : List Nat) : (sg cs).length = cs.length := by
  unfold sg
  rw [List.length_map, List.length_map]
theorem sg_snoc (cs : List Nat) (c : Nat) : sg cs ++ [V.str (sgn c)] = sg (cs ++ [c]) := by
  unfold sg
  simp
theorem sg_set (cs : List Nat) (i c : Nat) : (sg cs).set i (V.str (sgn c)) = sg (cs.set i c) := by
  unfold sg
  rw [List.map_set, List.map_set]
theorem sg_get {cs : List Nat} {i c : Nat} (h : cs[i]? = some c) : (sg cs)[i]? = some (V.str (sgn c)) := by
  unfold sg
  rw [List.getElem?_map, List.getElem?_map, h]
  rfl
theorem nm_signs {z : Str} {cs : List Nat} (hz : z.cps.toList = 113 :: cs) (h0 : cs.length ≤ 7) (hl : ∀ c, c ∈ cs → Low c) : Nm z := by
  refine ⟨by rw [hz]; simp, by rw [hz, List.length_cons]; omega, ?_, fun hb => ?_⟩
  · rw [hz]
    intro c hc
    rcases List.mem_cons.mp hc with rfl | hc
    · exact ⟨by decide, by decide⟩
    · exact hl c hc
  · have := barred_q z hb
    rw [hz] at this
    exact this rfl
theorem sgn_length (cs : List Nat) : ((cs.map sgn).map (·.length)).sum = cs.length := by
  induction cs with
  | nil => rfl
  | cons c r ih =>
    rw [List.map_cons, List.map_cons, List.sum_cons, ih, List.length_cons]
    show 1 + r.length = r.length + 1
    omega
section
variable {P : Program} {w : World} {K : PySem.W.Frag} {mg : Str → Option Value} {base : Heap}
abbrev s_law_names : Stmt := topS 23
abbrev N_names : List Str := ["_law_deck_here", "_law_many", "_law_letters", "_law_k", "_law_word", "_law_at", "_law_first", "_law_found"]
theorem sc_law_names : FnScope N_names ["_law_deck_here", "_law_many"] (defScope s_law_names) := ⟨rfl, rfl, rfl, by decide +kernel, rfl, by decide +kernel, by decide +kernel⟩
/-- a new list of names -/
def sp_names : Sp := fun vs H Q _ => ∃ (d c : Addr) (N : Int) (many : Nat), vs = [.ref d, .int (many : Int)] ∧ Deck H d c N ∧ N < 2 ^ 55 ∧ many ≤ 100 ∧
  ∀ H' p (zs : List Str), Keep d c H H' → Deck H' d c (N + 20) → H p = none → H' p = some (.lst (zs.map V.str)) → zs.length = many → (∀ z, z ∈ zs → Nm z) → Q (.ref p) H'
theorem ok_names {f f_law_draw f_law_pick : Addr} {fd fd_law_draw fd_law_pick : FuncData} {k : Nat} (F : Fun K "_law_names" "_law_names" s_law_names f fd) (G_law_draw : FnOk P w K mg base CX0 k f_law_draw fd_law_draw ["_law_deck_here", "_law_most"] sp_draw)
    (g_law_draw : mg "_law_draw" = some (.ref f_law_draw)) (K_law_draw : PySem.W.keepIn K (.ref f_law_draw) = true) (b_law_draw : Binds K fd_law_draw ["_law_deck_here", "_law_most"] [])
    (G_law_pick : FnOk P w K mg base CX0 k f_law_pick fd_law_pick ["_law_deck_here", "_law_some"] (sp_pick K))
    (g_law_pick : mg "_law_pick" = some (.ref f_law_pick)) (K_law_pick : PySem.W.keepIn K (.ref f_law_pick) = true) (b_law_pick : Binds K fd_law_pick ["_law_deck_here", "_law_some"] [])
    (mrange : mg "range" = none) (mlen : mg "len" = none) : FnOk P w K mg base CX0 (k + 1) f fd ["_law_deck_here", "_law_many"] sp_names := by
  have nd := sc_law_names.nd
  refine F.ok sc_law_names (fun vs H Q E h => ?_) (fun cdv A outer s H vs Q E hr h => ?_)
  · obtain ⟨d, c, N, many, rfl, _⟩ := h
    rfl
  obtain ⟨d, c, N, many, rfl, D, hN, hmany, q⟩ := h
  refine ⟨_, (pss_cons (ps_set (i := 2) nd rfl (.inr rfl) pe_str)
      (Evl.pss_cut (ps_set (i := 4) nd rfl (.inl rfl) (pe_op op_cat (pe_lst (pa_cons pe_str pa_nil)) (pe_lc (own := [("_law_k", 3)]) rfl nd (pi_range1 rfl mrange (pa_cons (pe_op op_add pe_int (pe_call G_law_draw hr (by rfl) g_law_draw K_law_draw b_law_draw .nil pass0 (pa_cons (pv 0) (pa_cons pe_int pa_nil)))) pa_nil)) (blkOk_by (N := N_names) (sc := defScope s_law_names) (by decide +kernel)) (fun _ _ _ _ _ => (pg_name (i := 3) nd rfl (Or.inl rfl))) (fun _ _ _ _ _ => pts_nil)
          (te := tCall (sp_pick K) [] E0 (tCons (tVar 0) (tCons (tVar 2) tNil)))
          (fun _ _ _ _ _ => (pe_call G_law_pick hr (by rfl) g_law_pick K_law_pick b_law_pick .nil pass0 (pa_cons (pv 0) (pa_cons (pv 2) pa_nil)))))))
      (pss_cons (ps_set (i := 5) nd rfl (.inl rfl) (pe_op op_add pe_int (pe_call G_law_draw hr (by rfl) g_law_draw K_law_draw b_law_draw .nil pass0 (pa_cons (pv 0) (pa_cons (pe_op op_sub (pe_callB call_len_seq (by rfl) mlen PySem.boot_len (pa_cons (pv 4) pa_nil)) pe_int) pa_nil)))))
      (pss_cons (ps_set (i := 6) nd rfl (.inl rfl) (pe_bm PySem.F.plainAttrs_str PySem.F.slot_str_index PySem.F.type_str_index mt_sindex (pv 2) (pa_cons (pe_ix ix_list (pv 4) (pv 5) (fun _ _ => rfl)) pa_nil)))
      (pss_cons (ps_set (i := 7) nd rfl (.inl rfl) (pe_lst pa_nil))
      (pss_cons (ps_for PassesOwn.never rfl (pi_range1 rfl mrange (pa_cons (pv 1) pa_nil)) (pg_name (i := 3) nd rfl (Or.inl rfl))
      (pss_cons (ps_asg (pe_ix ix_str (pv 2) (pe_op op_mod (pe_op op_add (pv 6) (pv 3)) pe_int) (fun _ _ => rfl)) (pg_sub (pv 4) (pv 5) set_list))
        (pss_one (ps_expr (pe_bm PySem.F.plainAttrs_list PySem.F.slot_list_append PySem.F.type_list_append mt_append (pv 7) (pa_cons (pe_join pe_str (pv 4)) pa_nil))))))
      (pss_one (ps_ret (pv 7))))))))), ?_⟩
  -- word = ['q'] + [..]
  refine ⟨fun σ' H' => ∃ wd cs, σ' = [some (.ref d), some (.int (many : Int)), some (.str L26), none, some (.ref wd), none, none, none] ∧ Keep d c H H' ∧ Deck H' d c (N + 8) ∧ H wd = none ∧ wd ≠ d ∧ wd ≠ c ∧ H' wd = some (.lst (sg (113 :: cs))) ∧ 1 ≤ cs.length ∧ cs.length ≤ 7 ∧ (∀ x, x ∈ cs → Low x), ?_, ?_⟩
  · refine ⟨Nat.le_of_lt (small1000 (show 1 ≤ 1000 by decide)), fun l nl => ?_⟩
    have sl := same_upd (o := .lst [.str "q"]) nl
    have D1 := D.same sl
    have hl := D.new nl
    have hl1 : upd H l (.lst [.str "q"]) l = some (.lst [.str "q"]) := upd_same
    refine ⟨.ref d, rfl, d, c, N, 7, rfl, D1, by omega, by decide, by decide, fun H1 r k1 D2 r0 r1 => ?_⟩
    obtain ⟨n, rfl⟩ := Int.eq_ofNat_of_zero_le r0
    refine ⟨1, (n : Int), rfl, rfl, 1 + (n : Int), rfl, by omega, by omega, fun B nB => ?_⟩
    have hB := D2.new nB
    have nlB : l ≠ B := ne_of_none (k1 _ _ hl.1 hl.2 hl1) nB
    have e1n : (1 + (n : Int)).toNat = n + 1 := by omega
    rw [e1n]
    refine lc_range (n := n + 1) (fun i H' => ∃ cs, cs.length = i ∧ (∀ x, x ∈ cs → Low x) ∧ H' B = some (.lst (sg cs)) ∧ (∀ b o, b ≠ d → b ≠ c → b ≠ B → H1 b = some o → H' b = some o) ∧ Deck H' d c (N + 1 + (i : Int))) ?_ ?_ ?_
    · refine ⟨[], rfl, fun x hx => (nomatch hx), upd_same, fun b o _ _ nb e => by rw [upd_ne nb]; exact e, ?_⟩
      exact (D2.same (same_upd nB)).mono (by omega)
    · rintro i H3 hi ⟨cs, hlen, hlow, hB3, k3, D3⟩
      refine ⟨rfl, yes_then ⟨.ref d, rfl, .str L26, rfl, .inr ⟨d, c, _, rfl, D3, by omega, fun H4 j k4 D4 hj => ?_⟩⟩⟩
      refine ⟨_, k4 _ _ hB.1 hB.2 hB3, ?_, cs ++ [97 + j], ?_, ?_, ?_, ?_, ?_⟩
      · rw [sg_length]
        exact small1000 (by omega)
      · rw [List.length_append, hlen]
        rfl
      · intro x hx
        rcases List.mem_append.mp hx with hx | hx
        · exact hlow x hx
        · rw [List.mem_singleton.mp hx]
          unfold Low
          omega
      · rw [upd_same, sg_snoc]
      · intro b o n1 n2 n3 e
        rw [upd_ne n3]
        exact k4 _ _ n1 n2 (k3 b o n1 n2 n3 e)
      · obtain ⟨cells, m, x, g1, g2, g3, g4, g5⟩ := D4
        refine ⟨cells, m, x, ?_, ?_, g3, g4, by omega⟩
        · rw [upd_ne hB.1.symm]
          exact g1
        · rw [upd_ne hB.2.symm]
          exact g2
    · rintro H3 ⟨cs, hlen, hlow, hB3, k3, D3⟩
      have hl3 := k3 _ _ hl.1 hl.2 nlB (k1 _ _ hl.1 hl.2 hl1)
      refine ⟨l, B, _, _, rfl, rfl, hl3, hB3, ?_, fun wd nwd => ?_⟩
      · rw [sg_length]
        exact small_le (show 1 + cs.length ≤ 1000 by omega)
      have hw := D3.new nwd
      have sw := same_upd (o := .lst ([.str "q"] ++ sg cs)) nwd
      refine ⟨wd, cs, rfl, ?_, (D3.same sw).mono (by omega), ?_, hw.1, hw.2, ?_, by omega, by omega, hlow⟩
      · intro b o n1 n2 e
        refine sw _ _ (k3 b o n1 n2 ?_ (k1 _ _ n1 n2 (sl _ _ e)))
        exact ne_of_none (k1 _ _ n1 n2 (sl _ _ e)) nB
      · cases e : H wd with
        | none => rfl
        | some o =>
          have nb := ne_of_none (k1 _ _ hw.1 hw.2 (sl _ _ e)) nB
          rw [k3 wd o hw.1 hw.2 nb (k1 _ _ hw.1 hw.2 (sl _ _ e))] at nwd
          cases nwd
      · exact upd_same
  rintro σ' H1 ⟨wd, cs, rfl, k1, D1, nwd, hwd, hwc, hw1, c1, c7, hlow⟩
  -- at, first
  refine ⟨.ref d, rfl, .ref wd, rfl, wd, _, rfl, .inl (.inl (.inl hw1)), _, 1, rfl, rfl, d, c, N + 8, ((sg (113 :: cs)).length : Int) - 1, rfl, D1, by omega, ?_, ?_, fun H2 r k2 D2 r0 r1 => ⟨_, _, rfl, rfl, ?_⟩⟩
  · rw [sg_length, List.length_cons]
    omega
  · rw [sg_length, List.length_cons]
    omega
  rw [sg_length, List.length_cons] at r1
  obtain ⟨j, rfl⟩ := Int.eq_ofNat_of_zero_le r0
  have hj : j < cs.length := by omega
  have hw2 := k2 _ _ hwd hwc hw1
  have hcj : (113 :: cs)[j + 1]? = some cs[j] := by
    rw [List.getElem?_cons_succ]
    exact List.getElem?_eq_getElem hj
  have hlj := hlow _ (List.getElem_mem hj)
  obtain ⟨m, hm, hm26⟩ : ∃ m, cs[j] = 97 + m ∧ m < 26 := ⟨cs[j] - 97, by unfold Low at hlj; omega, by unfold Low at hlj; omega⟩
  refine ⟨.str L26, rfl, rfl, .ref wd, rfl, .int (1 + (j : Int)), rfl, wd, _, 1 + (j : Int), .str (sgn (97 + m)), rfl, rfl, .inl (.inl hw2), at_of (j := j + 1) (by omega) (by rw [sg_get hcj, hm]), L26, sgn (97 + m), m, [], rfl, rfl, l26_occ m hm26, ?_⟩
  refine ⟨Nat.zero_le _, fun fo nfo => ?_⟩
  have sf := same_upd (o := .lst []) nfo
  have hfo := D2.new nfo
  have nwf : wd ≠ fo := ne_of_none hw2 nfo
  refine ⟨.int (many : Int), rfl, (many : Int), rfl, by omega, by omega, ?_⟩
  have emany : ((many : Int)).toNat = many := by omega
  rw [emany]
  refine for_range (n := many) (fun i σ H' => ∃ (y3 : Option V) (cs' : List Nat) (zs : List Str), σ = [some (.ref d), some (.int (many : Int)), some (.str L26), y3, some (.ref wd), some (.int (1 + (j : Int))), some (.int (m : Int)), some (.ref fo)] ∧ H' wd = some (.lst (sg (113 :: cs'))) ∧ cs'.length = cs.length ∧ (∀ x, x ∈ cs' → Low x) ∧
      H' fo = some (.lst (zs.map V.str)) ∧ zs.length = i ∧ (∀ z, z ∈ zs → Nm z) ∧ (∀ b o, b ≠ wd → b ≠ fo → H2 b = some o → H' b = some o)) ?_ ?_ ?_
  · refine ⟨none, cs, [], rfl, ?_, rfl, hlow, upd_same, rfl, fun z hz => (nomatch hz), fun b o n1 n2 e => by rw [upd_ne n2]; exact e⟩
    rw [upd_ne nwf]
    exact hw2
  · rintro i σ H3 hi ⟨y3, cs', zs, rfl, hw3, hl3, hlow3, hf3, hz3, hnm3, k3⟩
    have hmod : ∃ t : Nat, ((m : Int) + (0 + (i : Int))) % 26 = (t : Int) ∧ t < 26 := ⟨(m + i) % 26, by omega, Nat.mod_lt _ (by decide)⟩
    obtain ⟨t, ht, ht26⟩ := hmod
    refine ⟨.str L26, rfl, .int (m : Int), rfl, .int (0 + (i : Int)), rfl, _, _, rfl, rfl, _, 26, rfl, rfl, (show (0 : Int) < 26 by decide), L26, (t : Int), 97 + t, rfl, congrArg V.int ht, by rw [l26_len]; decide, atI_nat (l26_at t ht26), ?_⟩
    have hix : ixN (sg (113 :: cs')).length (1 + (j : Int)) = some (j + 1) := by
      unfold ixN
      rw [if_pos (by omega), if_pos (by rw [sg_length, List.length_cons]; omega)]
      exact congrArg some (by omega)
    refine ⟨.ref wd, rfl, .int (1 + (j : Int)), rfl, wd, _, 1 + (j : Int), j + 1, rfl, rfl, hw3, hix, ?_⟩
    have hset : (sg (113 :: cs')).set (j + 1) (.str (sgn (97 + t))) = sg (113 :: cs'.set j (97 + t)) := sg_set _ _ _
    have hw4 : upd H3 wd (.lst ((sg (113 :: cs')).set (j + 1) (.str (sgn (97 + t))))) wd = some (.lst (sg (113 :: cs'.set j (97 + t)))) := by rw [upd_same, hset]
    have hf4 : upd H3 wd (.lst ((sg (113 :: cs')).set (j + 1) (.str (sgn (97 + t))))) fo = some (.lst (zs.map V.str)) := by
      rw [upd_ne nwf.symm]
      exact hf3
    refine ⟨.ref fo, rfl, .inl ⟨rfl, _, .inl (.inl hf4)⟩, ⟨_, rfl⟩, .ref wd, rfl, Str.empty, wd, (113 :: cs'.set j (97 + t)).map sgn, rfl, rfl, .inl (.inl (.inl hw4)), ?_, fo, _, _, rfl, rfl, hf4, ?_, ?_⟩
    · rw [sgn_length, List.length_map, List.length_cons, List.length_set]
      show _ + _ * 0 ≤ _
      omega
    · rw [List.length_map]
      exact small1000 (by omega)
    · refine ⟨_, cs'.set j (97 + t), zs ++ [Txt.join Str.empty ((113 :: cs'.set j (97 + t)).map sgn)], rfl, ?_, by rw [List.length_set]; exact hl3, ?_, ?_, by rw [List.length_append, hz3]; rfl, ?_, ?_⟩
      · rw [upd_ne nwf]
        exact hw4
      · intro x hx
        rcases List.mem_or_eq_of_mem_set hx with hx | rfl
        · exact hlow3 x hx
        · unfold Low
          omega
      · rw [upd_same, List.map_append]
        rfl
      · intro z hz
        rcases List.mem_append.mp hz with hz | hz
        · exact hnm3 z hz
        · rw [List.mem_singleton.mp hz]
          refine nm_signs (cs := cs'.set j (97 + t)) (join_signs _) (by rw [List.length_set]; omega) ?_
          intro x hx
          rcases List.mem_or_eq_of_mem_set hx with hx | rfl
          · exact hlow3 x hx
          · unfold Low
            omega
      · intro b o n1 n2 e
        rw [upd_ne n2, upd_ne n1]
        exact k3 b o n1 n2 e
  · rintro σ H3 ⟨y3, cs', zs, rfl, hw3, hl3, hlow3, hf3, hz3, hnm3, k3⟩
    have nHfo : H fo = none := (k1.trans k2).free nfo hfo.1 hfo.2
    refine ⟨.ref fo, rfl, q H3 fo zs ?_ ?_ nHfo hf3 hz3 hnm3⟩
    · intro b o n1 n2 e
      exact k3 b o (ne_of_none e nwd) (ne_of_none e nHfo) (k2 _ _ n1 n2 (k1 _ _ n1 n2 e))
    · obtain ⟨cells, mm, x, e1, e2, e3, e4, e5⟩ := D2
      exact ⟨cells, mm, x, k3 _ _ hwd.symm hfo.1.symm e1, k3 _ _ hwc.symm hfo.2.symm e2, e3, e4, by omega⟩
end
end K6

namespace K6
open PySem PySem.Spec PyProof.Rows L2 GR
/-- all but the deck and the world is as it was -/
def KeepW (d c u : Addr) (H H' : Hp) : Prop := ∀ b o, b ≠ d → b ≠ c → b ≠ u → H b = some o → H' b = some o
theorem KeepW.refl {d c u : Addr} {H : Hp} : KeepW d c u H H := fun _ _ _ _ _ e => e
theorem KeepW.trans {d c u : Addr} {H H1 H2 : Hp} (a : KeepW d c u H H1) (b : KeepW d c u H1 H2) : KeepW d c u H H2 := fun x o h1 h2 h3 e => b x o h1 h2 h3 (a x o h1 h2 h3 e)
theorem Keep.w {d c : Addr} {H H' : Hp} (s : Keep d c H H') (u : Addr) : KeepW d c u H H' := fun b o h1 h2 _ e => s b o h1 h2 e
theorem KeepW.of {d c u : Addr} {H H' : Hp} (s : Same H H') : KeepW d c u H H' := fun b o _ _ _ e => s b o e
theorem Keep.dct {d c p : Addr} {H H' : Hp} {N : Int} {kvs : List (Key × V)} (s : Keep d c H H') (D : Deck H d c N) (h : H p = some (.dK kvs)) : H' p = some (.dK kvs) := by
  obtain ⟨cells, m, n, h1, h2, _⟩ := D
  exact s p _ (ne_of h h1 (fun z => by cases z)) (ne_of h h2 (fun z => by cases z)) h
def wK (nl : Addr) (L : Int) : List (Key × V) := [(.inr "names", .ref nl), (.inr "left", .int L)]
theorem wK_names (nl : Addr) (L : Int) : valV (wK nl L) (.inr "names") = some (.ref nl) := valV_pos rfl
theorem wK_left (nl : Addr) (L : Int) : valV (wK nl L) (.inr "left") = some (.int L) := (valV_neg (show ¬ ((.inr "names" : Key) = .inr "left") by decide)).trans (valV_pos rfl)
theorem wK_put (nl : Addr) (L M : Int) : putK (wK nl L) (.inr "left") (.int M) = wK nl M := by
  unfold putK wK
  simp
  decide
/-- the world at u: the list of names at nl, how many parts may come -/
structure Wo (H : Hp) (d c u nl : Addr) (zs : List Str) : Prop where
  dct : ∃ L : Int, H u = some (.dK (wK nl L))
  nms : H nl = some (.lst (zs.map V.str))
  nd : nl ≠ d
  nc : nl ≠ c
  len : zs.length = 6
  all : ∀ z, z ∈ zs → Nm z
  inn : ("in" : Str) ∈ zs
theorem Wo.ud {H : Hp} {d c u nl : Addr} {zs : List Str} {N : Int} (W : Wo H d c u nl zs) (D : Deck H d c N) : u ≠ d ∧ u ≠ c := by
  obtain ⟨cells, m, n, h1, h2, _⟩ := D
  obtain ⟨L, hL⟩ := W.dct
  exact ⟨ne_of hL h1 (fun z => by cases z), ne_of hL h2 (fun z => by cases z)⟩
theorem Wo.un {H : Hp} {d c u nl : Addr} {zs : List Str} (W : Wo H d c u nl zs) : nl ≠ u := by
  obtain ⟨L, hL⟩ := W.dct
  exact ne_of W.nms hL (fun z => by cases z)
theorem Wo.keep {H H' : Hp} {d c u nl : Addr} {zs : List Str} {N : Int} (W : Wo H d c u nl zs) (D : Deck H d c N) (k : Keep d c H H') : Wo H' d c u nl zs := by
  obtain ⟨L, hL⟩ := W.dct
  have := W.ud D
  exact ⟨⟨L, k _ _ this.1 this.2 hL⟩, k _ _ W.nd W.nc W.nms, W.nd, W.nc, W.len, W.all, W.inn⟩
theorem in_nm : Nm "in" := nm_lit (by decide)
abbrev sixes : List Str := ["in", "a", "int", "cell", "var", "rows"]
theorem six_nm : ∀ z, z ∈ sixes → Nm z := by
  intro z hz
  simp only [List.mem_cons, List.not_mem_nil, or_false] at hz
  rcases hz with rfl | rfl | rfl | rfl | rfl | rfl <;> exact nm_lit (by decide)
section
variable {P : Program} {w : World} {K : PySem.W.Frag} {mg : Str → Option Value} {base : Heap}
abbrev s_law_world : Stmt := topS 24
theorem sc_law_world : FnScope ["_law_deck_here", "_law_names_here"] ["_law_deck_here"] (defScope s_law_world) := ⟨rfl, rfl, rfl, by decide +kernel, rfl, by decide +kernel, by decide +kernel⟩
def sp_world : Sp := fun vs H Q _ => ∃ (d c : Addr) (N : Int), vs = [.ref d] ∧ Deck H d c N ∧ N < 2 ^ 54 ∧
  ∀ H' u nl zs, Keep d c H H' → Deck H' d c (N + 30) → H u = none → H nl = none → Wo H' d c u nl zs → Q (.ref u) H'
theorem ok_world {f f_law_draw f_law_pick f_law_names : Addr} {fd fd_law_draw fd_law_pick fd_law_names : FuncData} {k : Nat} (F : Fun K "_law_world" "_law_world" s_law_world f fd) (G_law_draw : FnOk P w K mg base CX0 k f_law_draw fd_law_draw ["_law_deck_here", "_law_most"] sp_draw)
    (g_law_draw : mg "_law_draw" = some (.ref f_law_draw)) (K_law_draw : PySem.W.keepIn K (.ref f_law_draw) = true) (b_law_draw : Binds K fd_law_draw ["_law_deck_here", "_law_most"] [])
    (G_law_pick : FnOk P w K mg base CX0 k f_law_pick fd_law_pick ["_law_deck_here", "_law_some"] (sp_pick K))
    (g_law_pick : mg "_law_pick" = some (.ref f_law_pick)) (K_law_pick : PySem.W.keepIn K (.ref f_law_pick) = true) (b_law_pick : Binds K fd_law_pick ["_law_deck_here", "_law_some"] [])
    (G_law_names : FnOk P w K mg base CX0 k f_law_names fd_law_names ["_law_deck_here", "_law_many"] sp_names)
    (g_law_names : mg "_law_names" = some (.ref f_law_names)) (K_law_names : PySem.W.keepIn K (.ref f_law_names) = true) (b_law_names : Binds K fd_law_names ["_law_deck_here", "_law_many"] []) : FnOk P w K mg base CX0 (k + 1) f fd ["_law_deck_here"] sp_world := by
  have nd := sc_law_world.nd
  refine F.ok sc_law_world (fun vs H Q E h => ?_) (fun cdv A outer s H vs Q E hr h => ?_)
  · obtain ⟨d, c, N, rfl, _⟩ := h
    rfl
  obtain ⟨d, c, N, rfl, D, hN, q⟩ := h
  refine ⟨_, (pss_cons (ps_set (i := 1) nd rfl (.inl rfl) (pe_call G_law_names hr (by rfl) g_law_names K_law_names b_law_names .nil pass0 (pa_cons (pv 0) (pa_cons pe_int pa_nil))))
      (pss_cons (ps_asg (pe_call G_law_pick hr (by rfl) g_law_pick K_law_pick b_law_pick .nil pass0 (pa_cons (pv 0) (pa_cons (pe_lst (pa_cons pe_str (pa_cons pe_str (pa_cons pe_str (pa_cons pe_str (pa_cons pe_str (pa_cons pe_str pa_nil))))))) pa_nil))) (pg_sub (pv 1) (pe_call G_law_draw hr (by rfl) g_law_draw K_law_draw b_law_draw .nil pass0 (pa_cons (pv 0) (pa_cons pe_int pa_nil))) set_list))
      (pss_one (ps_ret (pe_disp (pps_cons pe_str (pe_op op_cat (pv 1) (pe_lst (pa_cons pe_str pa_nil))) (pps_cons pe_str pe_int pps_nil)) (by decide) rfl (by simp) (by decide)))))), ?_⟩
  refine ⟨.ref d, rfl, d, c, N, 5, rfl, D, by omega, by decide, fun H1 p zs k1 D1 np hp hlen hnm => ?_⟩
  have hpn : p ≠ d ∧ p ≠ c := by
    obtain ⟨cells, m, n, h1, h2, _⟩ := D
    exact ⟨(ne_of_none h1 np).symm, (ne_of_none h2 np).symm⟩
  refine ⟨.ref d, rfl, small_le (show 6 ≤ 1000 by decide), fun l nl => ?_⟩
  have sl := same_upd (o := .lst [.str "in", .str "a", .str "int", .str "cell", .str "var", .str "rows"]) nl
  have hl := D1.new nl
  have hl1 : SqL K (upd H1 l (.lst [.str "in", .str "a", .str "int", .str "cell", .str "var", .str "rows"])) l (sixes.map V.str) := .inl (.inl upd_same)
  refine .inl ⟨d, c, l, N + 20, _, rfl, D1.same sl, by omega, hl1, List.cons_ne_nil _ _, by decide, hl.1, hl.2, fun H2 v k2 D2 hv => ?_⟩
  obtain ⟨z, hz, rfl⟩ := List.mem_map.mp hv
  refine ⟨.ref p, rfl, .ref d, rfl, d, c, N + 20 + 1, 5, rfl, D2, by omega, by decide, by decide, fun H3 r k3 D3 r0 r1 => ?_⟩
  obtain ⟨j, rfl⟩ := Int.eq_ofNat_of_zero_le r0
  have hj : j < 5 := by omega
  have hp3 := k3 _ _ hpn.1 hpn.2 (k2 _ _ hpn.1 hpn.2 (sl _ _ hp))
  refine ⟨p, _, (j : Int), j, rfl, rfl, hp3, ?_, ?_⟩
  · unfold ixN
    rw [if_pos (by omega), List.length_map, hlen, if_pos (by omega)]
    exact congrArg some (by omega)
  rw [← List.map_set]
  have k03 : Keep d c H H3 := ((k1.trans (Keep.of sl)).trans k2).trans k3
  have k4 : Keep d c H (upd H3 p (.lst ((zs.set j z).map V.str))) := fun b o n1 n2 e => by
    rw [upd_ne (ne_of_none e np)]
    exact k03 b o n1 n2 e
  have D4 : Deck (upd H3 p (.lst ((zs.set j z).map V.str))) d c (N + 30) := by
    obtain ⟨cells, mm, x, e1, e2, e3, e4, e5⟩ := D3
    refine ⟨cells, mm, x, ?_, ?_, e3, e4, by omega⟩
    · rw [upd_ne hpn.1.symm]
      exact e1
    · rw [upd_ne hpn.2.symm]
      exact e2
  have hp4 : upd H3 p (.lst ((zs.set j z).map V.str)) p = some (.lst ((zs.set j z).map V.str)) := upd_same
  revert k4 D4 hp4
  generalize upd H3 p (.lst ((zs.set j z).map V.str)) = H4
  intro k4 D4 hp4
  intro u nu
  have su := same_upd (o := .dK []) nu
  have hu := D4.new nu
  refine ⟨.ref p, rfl, small_le (show 1 ≤ 1000 by decide), fun l2 nl2 => ?_⟩
  have s2 := same_upd (o := .lst [.str "in"]) nl2
  refine ⟨p, l2, _, _, rfl, rfl, s2 _ _ (su _ _ hp4), upd_same, ?_, fun x nx => ?_⟩
  · rw [List.length_map, List.length_set, hlen]
    exact small_le (show 6 ≤ 1000 by decide)
  have s3 := same_upd (o := .lst ((zs.set j z).map V.str ++ [.str "in"])) nx
  have u3 := s3 _ _ (s2 _ _ (show upd H4 u (.dK []) u = _ from upd_same))
  have hx := D4.new (su.free (s2.free nx))
  have n3 : H u = none := k4.free nu hu.1 hu.2
  have nx3 : H x = none := k4.free (su.free (s2.free nx)) hx.1 hx.2
  have hxu : x ≠ u := (ne_of_none (s2 _ _ (show upd H4 u (.dK []) u = _ from upd_same)) nx).symm
  refine ⟨u3, wK x 30, rfl, (show 2 ≤ 15 by decide), q _ u x (zs.set j z ++ [("in" : Str)]) ?_ ?_ n3 nx3 ?_⟩
  · intro b o n1 n2 e
    rw [upd_ne (ne_of_none e n3)]
    exact s3 _ _ (s2 _ _ (su _ _ (k4 _ _ n1 n2 e)))
  · obtain ⟨cells, mm, y, e1, e2, e3, e4, e5⟩ := D4
    refine ⟨cells, mm, y, ?_, ?_, e3, e4, e5⟩
    · rw [upd_ne hu.1.symm]
      exact s3 _ _ (s2 _ _ (su _ _ e1))
    · rw [upd_ne hu.2.symm]
      exact s3 _ _ (s2 _ _ (su _ _ e2))
  · refine ⟨⟨30, upd_same⟩, ?_, hx.1, hx.2, ?_, ?_, ?_⟩
    · rw [upd_ne hxu, List.map_append]
      exact upd_same
    · rw [List.length_append, List.length_set, hlen]
      rfl
    · intro y hy
      rcases List.mem_append.mp hy with hy | hy
      · rcases List.mem_or_eq_of_mem_set hy with hy | rfl
        · exact hnm y hy
        · exact six_nm _ hz
      · rw [List.mem_singleton.mp hy]
        exact in_nm
    · exact List.mem_append_right _ (List.mem_singleton.mpr rfl)
end
end K6

namespace K6
open PySem PySem.Spec PyProof.Rows L2 GR
abbrev aggs : List (Str × Nat) := [("count", 2), ("sum", 3), ("most", 4), ("first", 3)]
abbrev opws : List Str := ["+", "-", "*", "<", "=", "at"]
/-- one that contains none -/
inductive Leaf (zs : List Str) : PyData → Prop
  | int (i : Int) : -(10 ^ 18) ≤ i → i ≤ 10 ^ 18 → Leaf zs (.tuple [.str "int", .int i])
  | let_ (i : Int) : 0 ≤ i → i ≤ 9999 → Leaf zs (.tuple [.str "let", .int i])
  | key : Leaf zs (.tuple [.str "key"])
  | var (z : Str) : z ∈ zs → Leaf zs (.tuple [.str "var", .str z])
/-- an expression of depth n at most; its names are among zs -/
inductive Ex (zs : List Str) : Nat → PyData → Prop
  | leaf (n : Nat) (x : PyData) : Leaf zs x → Ex zs (n + 1) x
  | cell (n : Nat) (t v : Str) (x : PyData) : t ∈ zs → v ∈ zs → Ex zs n x → Ex zs (n + 1) (.tuple [.str "cell", .str t, x, .str v])
  | op (n : Nat) (o : Str) (x y : PyData) : o ∈ opws → Ex zs n x → Ex zs n y → Ex zs (n + 1) (.tuple [.str o, x, y])
  | iff (n : Nat) (x y z : PyData) : Ex zs n x → Ex zs n y → Ex zs n z → Ex zs (n + 1) (.tuple [.str "if", x, y, z])
  | agg (n : Nat) (o t : Str) (xs ys : List PyData) : (o, ys.length) ∈ aggs → t ∈ zs → xs.length ≤ 2 → (∀ x, x ∈ xs → Ex zs n x) → (∀ y, y ∈ ys → Ex zs n y) → Ex zs (n + 1) (.tuple (.str o :: .str t :: .tuple xs :: ys))
theorem Ex.mono {zs : List Str} : ∀ {n m : Nat} {x : PyData}, Ex zs n x → n ≤ m → Ex zs m x := by
  intro n m x h
  induction h generalizing m with
  | leaf n x h =>
    intro hm
    obtain ⟨k, rfl⟩ : ∃ k, m = k + 1 := ⟨m - 1, by omega⟩
    exact .leaf k x h
  | cell n t v x h1 h2 h3 ih =>
    intro hm
    obtain ⟨k, rfl⟩ : ∃ k, m = k + 1 := ⟨m - 1, by omega⟩
    exact .cell k t v x h1 h2 (ih (by omega))
  | op n o x y h1 h2 h3 ih1 ih2 =>
    intro hm
    obtain ⟨k, rfl⟩ : ∃ k, m = k + 1 := ⟨m - 1, by omega⟩
    exact .op k o x y h1 (ih1 (by omega)) (ih2 (by omega))
  | iff n x y z h1 h2 h3 ih1 ih2 ih3 =>
    intro hm
    obtain ⟨k, rfl⟩ : ∃ k, m = k + 1 := ⟨m - 1, by omega⟩
    exact .iff k x y z (ih1 (by omega)) (ih2 (by omega)) (ih3 (by omega))
  | agg n o t xs ys h1 h2 h3 h4 h5 ih1 ih2 =>
    intro hm
    obtain ⟨k, rfl⟩ : ∃ k, m = k + 1 := ⟨m - 1, by omega⟩
    exact .agg k o t xs ys h1 h2 h3 (fun x hx => ih1 x hx (by omega)) (fun y hy => ih2 y hy (by omega))
/-! ### data of tuples, texts and ints -/
mutual
/-- no lists in it -/
def flatD : PyData → Bool
  | .tuple ds => flatDs ds
  | .int _ => true
  | .str _ => true
  | .bool _ => true
  | .none => true
  | _ => false
def flatDs : List PyData → Bool
  | [] => true
  | d :: ds => flatD d && flatDs ds
end
theorem flatDs_of : ∀ {ds : List PyData}, (∀ d, d ∈ ds → flatD d = true) → flatDs ds = true
  | [], _ => by rw [flatDs]
  | d :: ds, h => by
    rw [flatDs, h d List.mem_cons_self, flatDs_of fun x hx => h x (List.mem_cons_of_mem _ hx)]
    rfl
theorem Ex.flat {zs : List Str} : ∀ {n : Nat} {x : PyData}, Ex zs n x → flatD x = true := by
  intro n x h
  induction h with
  | leaf n x h => cases h <;> simp only [flatD, flatDs, Bool.and_self]
  | cell n t v x h1 h2 h3 ih => simp only [flatD, flatDs, ih, Bool.and_self]
  | op n o x y h1 h2 h3 ih1 ih2 => simp only [flatD, flatDs, ih1, ih2, Bool.and_self]
  | iff n x y z h1 h2 h3 ih1 ih2 ih3 => simp only [flatD, flatDs, ih1, ih2, ih3, Bool.and_self]
  | agg n o t xs ys h1 h2 h3 h4 h5 ih1 ih2 => simp only [flatD, flatDs, flatDs_of ih1, flatDs_of ih2, Bool.and_self]
/-- the tuples stay -/
def KeepT (H H' : Hp) : Prop := (∀ b xs, H b = some (.tup xs) → H' b = some (.tup xs)) ∧ ∀ b o xs, H b = some (.frz o (.tup xs)) → H' b = some (.frz o (.tup xs))
theorem KeepT.of {H H' : Hp} (s : Same H H') : KeepT H H' := ⟨fun b xs e => s b _ e, fun b o xs e => s b _ e⟩
theorem KeepT.refl {H : Hp} : KeepT H H := ⟨fun _ _ e => e, fun _ _ _ e => e⟩
theorem KeepT.trans {H H1 H2 : Hp} (a : KeepT H H1) (b : KeepT H1 H2) : KeepT H H2 := ⟨fun x xs e => b.1 x xs (a.1 x xs e), fun x o xs e => b.2 x o xs (a.2 x o xs e)⟩
theorem KeepT.seqt {K : PySem.W.Frag} {H H' : Hp} (s : KeepT H H') {a : Addr} {xs : List V} (h : SqT K H a xs) : SqT K H' a xs := by
  rcases h with (h | ⟨o, h⟩) | h
  · exact .inl (.inl (s.1 _ _ h))
  · exact .inl (.inr ⟨o, s.2 _ _ _ h⟩)
  · exact .inr h
theorem KeepT.upd {H : Hp} {a : Addr} {o : HO} (ha : ∀ xs, H a ≠ some (.tup xs)) (hb : ∀ u xs, H a ≠ some (.frz u (.tup xs))) : KeepT H (L2.upd H a o) := by
  refine ⟨fun b xs e => ?_, fun b u xs e => ?_⟩
  · have : b ≠ a := by
      rintro rfl
      exact ha xs e
    rw [upd_ne this]
    exact e
  · have : b ≠ a := by
      rintro rfl
      exact hb u xs e
    rw [upd_ne this]
    exact e
theorem KeepT.lst {H : Hp} {a : Addr} {ys : List V} {o : HO} (h : H a = some (.lst ys)) : KeepT H (L2.upd H a o) := KeepT.upd (fun xs e => by rw [h] at e; cases e) (fun u xs e => by rw [h] at e; cases e)
theorem KeepT.dk {H : Hp} {a : Addr} {ys : List (Key × V)} {o : HO} (h : H a = some (.dK ys)) : KeepT H (L2.upd H a o) := KeepT.upd (fun xs e => by rw [h] at e; cases e) (fun u xs e => by rw [h] at e; cases e)
theorem KeepT.non {H : Hp} {a : Addr} {o : HO} (h : H a = none) : KeepT H (L2.upd H a o) := KeepT.of (same_upd h)
/-- what keeps all but the deck and the world keeps the tuples -/
theorem KeepW.t {H H' : Hp} {d c u nl : Addr} {zs : List Str} {N : Int} (k : KeepW d c u H H') (D : Deck H d c N) (W : Wo H d c u nl zs) : KeepT H H' := by
  obtain ⟨cells, m, n, h1, h2, _⟩ := D
  obtain ⟨L, hL⟩ := W.dct
  exact ⟨fun b xs e => k _ _ (ne_of e h1 (fun z => by cases z)) (ne_of e h2 (fun z => by cases z)) (ne_of e hL (fun z => by cases z)) e,
    fun b o xs e => k _ _ (ne_of e h1 (fun z => by cases z)) (ne_of e h2 (fun z => by cases z)) (ne_of e hL (fun z => by cases z)) e⟩
theorem Keep.t {H H' : Hp} {d c : Addr} {N : Int} (k : Keep d c H H') (D : Deck H d c N) : KeepT H H' := by
  obtain ⟨cells, m, n, h1, h2, _⟩ := D
  exact ⟨fun b xs e => k _ _ (ne_of e h1 (fun z => by cases z)) (ne_of e h2 (fun z => by cases z)) e,
    fun b o xs e => k _ _ (ne_of e h1 (fun z => by cases z)) (ne_of e h2 (fun z => by cases z)) e⟩
mutual
theorem dp_keep {K : PySem.W.Frag} {H H' : Hp} (s : KeepT H H') : ∀ (d : PyData) (v : V), flatD d = true → Dp K H v d → Dp K H' v d
  | .none, _, _, h => by
    cases h
    exact .non
  | .bool b, _, _, h => by
    cases h
    exact .bl b
  | .int i, _, _, h => by
    cases h
    exact .int i
  | .str z, _, _, h => by
    cases h
    exact .str z
  | .tuple ds, _, hf, h => by
    cases h with
    | tup h1 h2 => exact .tup (s.seqt h1) (dp_keepAll s ds _ (by rw [flatD] at hf; exact hf) h2)
  | .list ds, _, hf, h => by simp only [flatD, Bool.false_eq_true] at hf
  | .dict ds, _, hf, h => by cases h
theorem dp_keepAll {K : PySem.W.Frag} {H H' : Hp} (s : KeepT H H') : ∀ (ds : List PyData) (vs : List V), flatDs ds = true → DpAll K H vs ds → DpAll K H' vs ds
  | [], _, _, h => by
    cases h
    exact .nil
  | d :: ds, _, hf, h => by
    rw [flatDs, Bool.and_eq_true] at hf
    cases h with
    | cons h1 h2 => exact .cons (dp_keep s d _ hf.1 h1) (dp_keepAll s ds _ hf.2 h2)
end
end K6

namespace K6
open PySem PySem.Spec PyProof.Rows L2 GR
theorem noSl_str {z : Str} {pos : Pos} {k} : NoSl (.Constant (.str z) k pos) := fun _ _ => rfl
theorem dp_two {K : PySem.W.Frag} {H : Hp} {p : Addr} {a : Str} {v : V} {x : PyData} (h : Dp K H v x) (np : H p = none) : Dp K (upd H p (.tup [.str a, v])) (.ref p) (.tuple [.str a, x]) ∨ flatD x = false := by
  cases hf : flatD x with
  | false => exact .inr rfl
  | true => exact .inl (.tup (.inl (.inl upd_same)) (.cons (.str a) (.cons (dp_keep (KeepT.non np) x v hf h) .nil)))
section
variable {P : Program} {w : World} {K : PySem.W.Frag} {mg : Str → Option Value} {base : Heap}
abbrev s_law_leaf : Stmt := topS 25
theorem sc_law_leaf : FnScope ["_law_deck_here", "_law_world_here", "_law_way", "_law_some"] ["_law_deck_here", "_law_world_here"] (defScope s_law_leaf) := ⟨rfl, rfl, rfl, by decide +kernel, rfl, by decide +kernel, by decide +kernel⟩
def sp_leaf (K : PySem.W.Frag) : Sp := fun vs H Q _ => ∃ (d c u nl : Addr) (N : Int) (zs : List Str), vs = [.ref d, .ref u] ∧ Deck H d c N ∧ N < 2 ^ 59 ∧ Wo H d c u nl zs ∧
  ∀ H' v x, Keep d c H H' → Deck H' d c (N + 6) → Leaf zs x → Dp K H' v x → Q v H'
theorem ok_leaf {f f_law_draw f_law_pick : Addr} {fd fd_law_draw fd_law_pick : FuncData} {k : Nat} (F : Fun K "_law_leaf" "_law_leaf" s_law_leaf f fd) (G_law_draw : FnOk P w K mg base CX0 k f_law_draw fd_law_draw ["_law_deck_here", "_law_most"] sp_draw)
    (g_law_draw : mg "_law_draw" = some (.ref f_law_draw)) (K_law_draw : PySem.W.keepIn K (.ref f_law_draw) = true) (b_law_draw : Binds K fd_law_draw ["_law_deck_here", "_law_most"] [])
    (G_law_pick : FnOk P w K mg base CX0 k f_law_pick fd_law_pick ["_law_deck_here", "_law_some"] (sp_pick K))
    (g_law_pick : mg "_law_pick" = some (.ref f_law_pick)) (K_law_pick : PySem.W.keepIn K (.ref f_law_pick) = true) (b_law_pick : Binds K fd_law_pick ["_law_deck_here", "_law_some"] []) :
    FnOk P w K mg base CX0 (k + 1) f fd ["_law_deck_here", "_law_world_here"] (sp_leaf K) := by
  have nd := sc_law_leaf.nd
  refine F.ok sc_law_leaf (fun vs H Q E h => ?_) (fun cdv A outer s H vs Q E hr h => ?_)
  · obtain ⟨d, c, u, nl, N, zs, rfl, _⟩ := h
    rfl
  obtain ⟨d, c, u, nl, N, zs, rfl, D, hN, W, q⟩ := h
  have hu1 : (A.deeper (envOfC "_law_leaf" (defScope s_law_leaf) s.heap.objs.size f cdv)).units + 1 < cLine := by
    have := hr.units
    omega
  refine ⟨_, (pss_cons (ps_set (i := 2) nd rfl (.inl rfl) (pe_call G_law_draw hr (by rfl) g_law_draw K_law_draw b_law_draw .nil pass0 (pa_cons (pv 0) (pa_cons pe_int pa_nil))))
      (pss_cons (ps_if (pt_cmpR op_lt (pv 2) pe_int (nomark _))
      (pss_cons (ps_set (i := 3) nd rfl (.inl rfl) (pe_lst (pa_cons (pe_op op_sub (pe_call G_law_draw hr (by rfl) g_law_draw K_law_draw b_law_draw .nil pass0 (pa_cons (pv 0) (pa_cons pe_int pa_nil))) pe_int) (pa_cons pe_int (pa_cons (pe_op op_pow pe_int pe_int) (pa_cons (pe_op op_sub pe_int (pe_op op_pow pe_int pe_int)) (pa_cons (pe_op op_mul (pe_call G_law_draw hr (by rfl) g_law_draw K_law_draw b_law_draw .nil pass0 (pa_cons (pv 0) (pa_cons (pe_op op_pow pe_int pe_int) pa_nil))) (pe_op op_pow pe_int pe_int)) pa_nil)))))))
        (pss_one (ps_ret (pe_tup (pa_cons pe_str (pa_cons (pe_call G_law_pick hr (by rfl) g_law_pick K_law_pick b_law_pick .nil pass0 (pa_cons (pv 0) (pa_cons (pv 3) pa_nil))) pa_nil))))))
      pss_nil)
      (pss_cons (ps_if (pt_cmpR op_eq (pv 2) pe_int (nomark _))
      (pss_one (ps_ret (pe_tup (pa_cons pe_str (pa_cons (pe_call G_law_pick hr (by rfl) g_law_pick K_law_pick b_law_pick .nil pass0 (pa_cons (pv 0) (pa_cons (pe_lst (pa_cons pe_int (pa_cons pe_int (pa_cons (pe_call G_law_draw hr (by rfl) g_law_draw K_law_draw b_law_draw .nil pass0 (pa_cons (pv 0) (pa_cons pe_int pa_nil))) (pa_cons pe_int pa_nil))))) pa_nil))) pa_nil)))))
      pss_nil)
      (pss_one (ps_ret (pe_ifExp (pt_cmpR op_eq (pv 2) pe_int (nomark _)) (pe_tup (pa_cons pe_str pa_nil)) (pe_tup (pa_cons pe_str (pa_cons (pe_call G_law_pick hr (by rfl) g_law_pick K_law_pick b_law_pick .nil pass0 (pa_cons (pv 0) (pa_cons (pe_dget hu1 (pv 1) pe_str noSl_str) pa_nil))) pa_nil))))))))), ?_⟩
  -- a tuple of a word and an int, of two texts
  have done : ∀ (H1 : Hp) (M : Int) (a : Str) (v : V) (x : PyData), Keep d c H H1 → Deck H1 d c M → M ≤ N + 6 → Leaf zs (.tuple [.str a, x]) → Dp K H1 v x → flatD x = true → 2 ≤ sizeLine ∧ ∀ p, H1 p = none → Q (.ref p) (upd H1 p (.tup [.str a, v])) := by
    intro H1 M a v x k1 D1 hM hx hv hf
    refine ⟨le2, fun p np => ?_⟩
    have s := same_upd (o := .tup [.str a, v]) np
    refine q _ _ _ (k1.trans (Keep.of s)) ((D1.same s).mono hM) hx ?_
    rcases dp_two (a := a) hv np with h | h
    · exact h
    · rw [hf] at h
      cases h
  refine ⟨.ref d, rfl, d, c, N, 6, rfl, D, by omega, by decide, by decide, fun H1 way k1 D1 w0 w1 => ?_⟩
  refine ⟨.int way, rfl, _, _, rfl, rfl, _, rfl, ite2 (fun e1 => ?_) (fun e1 => ?_)⟩
  · refine ⟨.ref d, rfl, d, c, N + 1, 12, rfl, D1, by omega, by decide, by decide, fun H2 r2 k2 D2 r20 r21 => ?_⟩
    refine ⟨_, _, rfl, rfl, _, _, rfl, rfl, ⟨by decide, by decide, by decide⟩, _, _, rfl, rfl, ⟨by decide, by decide, by decide⟩, _, _, rfl, rfl, .ref d, rfl, _, _, rfl, rfl, ⟨by decide, by decide, by decide⟩, d, c, N + 1 + 1, 10 ^ 9, rfl, D2, by omega, by decide, by decide, fun H3 r3 k3 D3 r30 r31 => ?_⟩
    refine ⟨_, _, rfl, rfl, ⟨by decide, by decide, by decide⟩, r3, 10 ^ 9, rfl, rfl, .inr ⟨by decide, by decide⟩, small_le (show 5 ≤ 1000 by decide), fun l nl => ?_⟩
    have sl := same_upd (o := .lst [.int (r2 - 4), .int 0, .int (10 ^ 18), .int (0 - 10 ^ 18), .int (r3 * 10 ^ 9)]) nl
    have hl := D3.new nl
    have kk := ((k1.trans k2).trans k3).trans (Keep.of sl)
    have D4 := D3.same sl
    have hl1 : SqL K (upd H3 l (.lst [.int (r2 - 4), .int 0, .int (10 ^ 18), .int (0 - 10 ^ 18), .int (r3 * 10 ^ 9)])) l [.int (r2 - 4), .int 0, .int (10 ^ 18), .int (0 - 10 ^ 18), .int (r3 * 10 ^ 9)] := .inl (.inl upd_same)
    refine ⟨.ref d, rfl, .ref l, rfl, .inl ⟨d, c, l, N + 1 + 1 + 1, _, rfl, D4, by omega, hl1, List.cons_ne_nil _ _, (show 5 ≤ 1000 by decide), hl.1, hl.2, fun H5 v k5 D5 hv => ?_⟩⟩
    have hi : ∃ i : Int, v = .int i ∧ -(10 ^ 18) ≤ i ∧ i ≤ 10 ^ 18 := by
      simp only [List.mem_cons, List.not_mem_nil, or_false] at hv
      rcases hv with rfl | rfl | rfl | rfl | rfl
      · exact ⟨_, rfl, by omega, by omega⟩
      · exact ⟨_, rfl, by omega, by omega⟩
      · exact ⟨_, rfl, by omega, by omega⟩
      · exact ⟨_, rfl, by omega, by omega⟩
      · exact ⟨_, rfl, by omega, by omega⟩
    obtain ⟨i, rfl, i0, i1⟩ := hi
    exact done H5 _ "int" _ _ (kk.trans k5) D5 (by omega) (.int i i0 i1) (.int i) rfl
  · refine ⟨.int way, rfl, rfl, _, rfl, ite2 (fun e2 => ?_) (fun e2 => ?_)⟩
    · refine ⟨.ref d, rfl, .ref d, rfl, d, c, N + 1, 400, rfl, D1, by omega, by decide, by decide, fun H2 r2 k2 D2 r20 r21 => ?_⟩
      refine ⟨small_le (show 4 ≤ 1000 by decide), fun l nl => ?_⟩
      have sl := same_upd (o := .lst [.int 0, .int 1, .int r2, .int 9999]) nl
      have hl := D2.new nl
      have kk := (k1.trans k2).trans (Keep.of sl)
      have D4 := D2.same sl
      have hl1 : SqL K (upd H2 l (.lst [.int 0, .int 1, .int r2, .int 9999])) l [.int 0, .int 1, .int r2, .int 9999] := .inl (.inl upd_same)
      refine .inl ⟨d, c, l, N + 1 + 1, _, rfl, D4, by omega, hl1, List.cons_ne_nil _ _, (show 4 ≤ 1000 by decide), hl.1, hl.2, fun H5 v k5 D5 hv => ?_⟩
      have hi : ∃ i : Int, v = .int i ∧ 0 ≤ i ∧ i ≤ 9999 := by
        simp only [List.mem_cons, List.not_mem_nil, or_false] at hv
        rcases hv with rfl | rfl | rfl | rfl <;> exact ⟨_, rfl, by omega, by omega⟩
      obtain ⟨i, rfl, i0, i1⟩ := hi
      exact done H5 _ "let" _ _ (kk.trans k5) D5 (by omega) (.let_ i i0 i1) (.int i) rfl
    · refine ⟨.int way, rfl, rfl, _, rfl, ite2 (fun e3 => ?_) (fun e3 => ?_)⟩
      · refine ⟨Nat.le_trans (by decide) le2, fun p np => ?_⟩
        have s := same_upd (o := .tup [.str "key"]) np
        exact q _ _ _ (k1.trans (Keep.of s)) ((D1.same s).mono (by omega)) .key (.tup (.inl (.inl upd_same)) (.cons (.str "key") .nil))
      · have W1 := W.keep D k1
        obtain ⟨L, hL⟩ := W1.dct
        refine ⟨.ref d, rfl, .ref u, rfl, u, .ref nl, rfl, ?_, ?_⟩
        · rw [← wK_names nl L]
          exact DGet.k (k := .inr "names") hL
        · refine .inl ⟨d, c, nl, N + 1, _, rfl, D1, by omega, .inl (.inl W1.nms), ?_, ?_, W1.nd, W1.nc, fun H5 v k5 D5 hv => ?_⟩
          · intro e
            have := congrArg List.length e
            rw [List.length_map, W1.len] at this
            cases this
          · rw [List.length_map, W1.len]
            decide
          · obtain ⟨z, hz, rfl⟩ := List.mem_map.mp hv
            exact done H5 _ "var" _ _ (k1.trans k5) D5 (by omega) (.var z hz) (.str z) rfl
end
end K6

namespace K6
open PySem PySem.Spec PyProof.Rows L2 GR
/-- the draws of a term of depth n, at most -/
def dr : Nat → Int
  | 0 => 10
  | n + 1 => 20 + 6 * dr n
theorem dr_pos : ∀ n, 10 ≤ dr n
  | 0 => by simp only [dr]; omega
  | n + 1 => by
    have := dr_pos n
    simp only [dr]
    omega
theorem Wo.upd {H : Hp} {d c u nl a : Addr} {zs : List Str} {o : HO} (W : Wo H d c u nl zs) (h1 : a ≠ u) (h2 : a ≠ nl) : Wo (L2.upd H a o) d c u nl zs := by
  obtain ⟨L, hL⟩ := W.dct
  refine ⟨⟨L, ?_⟩, ?_, W.nd, W.nc, W.len, W.all, W.inn⟩
  · rw [upd_ne h1.symm]
    exact hL
  · rw [upd_ne h2.symm]
    exact W.nms
theorem Wo.new {H : Hp} {d c u nl a : Addr} {zs : List Str} (W : Wo H d c u nl zs) (na : H a = none) : a ≠ u ∧ a ≠ nl := by
  obtain ⟨L, hL⟩ := W.dct
  exact ⟨(ne_of_none hL na).symm, (ne_of_none W.nms na).symm⟩
theorem Wo.same {H H' : Hp} {d c u nl : Addr} {zs : List Str} (W : Wo H d c u nl zs) (s : Same H H') : Wo H' d c u nl zs := by
  obtain ⟨L, hL⟩ := W.dct
  exact ⟨⟨L, s _ _ hL⟩, s _ _ W.nms, W.nd, W.nc, W.len, W.all, W.inn⟩
theorem Deck.upd {H : Hp} {d c a : Addr} {N : Int} {o : HO} (D : Deck H d c N) (h1 : a ≠ d) (h2 : a ≠ c) : Deck (L2.upd H a o) d c N := by
  obtain ⟨cells, m, n, g1, g2, g3⟩ := D
  refine ⟨cells, m, n, ?_, ?_, g3⟩
  · rw [upd_ne h1.symm]
    exact g1
  · rw [upd_ne h2.symm]
    exact g2
theorem dpAll_len {K : PySem.W.Frag} {H : Hp} : ∀ {vs : List V} {ds : List PyData}, DpAll K H vs ds → vs.length = ds.length
  | [], _, h => by
    cases h
    rfl
  | v :: vs, _, h => by
    cases h with
    | cons _ h2 => rw [List.length_cons, List.length_cons, dpAll_len h2]
theorem dpAll_append {K : PySem.W.Frag} {H : Hp} : ∀ {vs us : List V} {ds es : List PyData}, DpAll K H vs ds → DpAll K H us es → DpAll K H (vs ++ us) (ds ++ es)
  | [], _, _, _, h, g => by
    cases h
    exact g
  | v :: vs, _, _, _, h, g => by
    cases h with
    | cons h1 h2 => exact .cons h1 (dpAll_append h2 g)
/-- terms are being made into the list at b -/
def TInv (K : PySem.W.Frag) (n : Nat) (d c u nl : Addr) (zs : List Str) (H1 : Hp) (b : Addr) (N : Int) (i : Nat) (H : Hp) : Prop :=
  ∃ vs ds, vs.length = i ∧ H b = some (.lst vs) ∧ (∀ a o, a ≠ d → a ≠ c → a ≠ u → a ≠ b → H1 a = some o → H a = some o) ∧ Deck H d c (N + (i : Int) * dr n) ∧ Wo H d c u nl zs ∧ DpAll K H vs ds ∧ ∀ x, x ∈ ds → Ex zs (n + 2) x
/-- any expression -/
def sp_term (K : PySem.W.Frag) (n : Nat) : Sp := fun vs H Q _ => ∃ (d c u nl : Addr) (N deep ins : Int) (zs : List Str), vs = [.ref d, .ref u, .int deep, .int ins] ∧ Deck H d c N ∧ N + dr n < 2 ^ 58 ∧ Wo H d c u nl zs ∧ deep ≤ (n : Int) ∧
  ∀ H' v x, KeepW d c u H H' → Deck H' d c (N + dr n) → Wo H' d c u nl zs → Ex zs (n + 2) x → Dp K H' v x → Q v H'
theorem TInv.start {K : PySem.W.Frag} {n : Nat} {d c u nl : Addr} {zs : List Str} {H1 : Hp} {b : Addr} {N : Int} (D : Deck H1 d c N) (W : Wo H1 d c u nl zs) (nb : H1 b = none) : TInv K n d c u nl zs H1 b N 0 (L2.upd H1 b (.lst [])) := by
  have s := same_upd (o := .lst []) nb
  refine ⟨[], [], rfl, upd_same, fun a o _ _ _ h e => s _ _ e, (D.same s).mono ?_, W.same s, .nil, fun x hx => (nomatch hx)⟩
  rw [Int.natCast_zero, Int.zero_mul]
  omega
theorem TInv.step {K : PySem.W.Frag} {n : Nat} {d c u nl : Addr} {zs : List Str} {H1 H : Hp} {b : Addr} {N M deep ins : Int} {i : Nat} {Q : VK} {E : XK} (D : Deck H1 d c M) (W : Wo H1 d c u nl zs) (nb : H1 b = none) (T : TInv K n d c u nl zs H1 b N i H) (hi : i ≤ 2)
    (hN : N + 3 * dr n < 2 ^ 58) (hd : deep ≤ (n : Int)) (q : ∀ H' v, (∃ acc, H' b = some (.lst acc) ∧ acc.length < sizeLine ∧ TInv K n d c u nl zs H1 b N (i + 1) (L2.upd H' b (.lst (acc ++ [v])))) → Q v H') :
    sp_term K n [.ref d, .ref u, .int deep, .int ins] H Q E := by
  obtain ⟨vs, ds, hlen, hb, kk, D2, W2, hdp, hex⟩ := T
  have h1 := D.new nb
  have h2 := W.new nb
  have p := dr_pos n
  have hm : (i : Int) * dr n ≤ 2 * dr n := Int.mul_le_mul_of_nonneg_right (by omega) (by omega)
  have hs : ((i + 1 : Nat) : Int) * dr n = (i : Int) * dr n + dr n := by rw [Int.natCast_succ, Int.add_mul, Int.one_mul]
  refine ⟨d, c, u, nl, _, deep, ins, zs, rfl, D2, ?_, W2, hd, fun H' v x k D3 W3 he hv => q _ _ ?_⟩
  · omega
  have hb3 := k b _ h1.1 h1.2 h2.1 hb
  have kt := k.t D2 W2
  have kt2 : KeepT H' (L2.upd H' b (.lst (vs ++ [v]))) := KeepT.lst hb3
  refine ⟨vs, hb3, small1000 (by omega), vs ++ [v], ds ++ [x], by rw [List.length_append, hlen]; rfl, upd_same, ?_, ?_, W3.upd h2.1 h2.2, ?_, ?_⟩
  · intro a o n1 n2 n3 n4 e
    rw [upd_ne n4]
    exact k _ _ n1 n2 n3 (kk a o n1 n2 n3 n4 e)
  · refine (D3.upd h1.1 h1.2).mono ?_
    omega
  · refine dpAll_append (dp_keepAll (kt.trans kt2) _ _ (flatDs_of fun y hy => (hex y hy).flat) hdp) (.cons (dp_keep kt2 _ _ he.flat hv) .nil)
  · intro y hy
    rcases List.mem_append.mp hy with hy | hy
    · exact hex y hy
    · rw [List.mem_singleton.mp hy]
      exact he
end K6

namespace K6
open PySem PySem.Spec PyProof.Rows L2 GR
theorem noSl_name {x : Str} {pos : Pos} : NoSl (.Name x pos) := fun _ _ => rfl
abbrev fours : List Str := ["count", "sum", "most", "first"]
def manyK : List (Key × V) := [(.inr "count", .int 1), (.inr "sum", .int 2), (.inr "most", .int 3), (.inr "first", .int 2)]
theorem many_of : ∀ o, o ∈ fours → ∃ m : Nat, valV (mergeK [] manyK) (.inr o) = some (.int (m : Int)) ∧ (o, m + 1) ∈ aggs ∧ m ≤ 3 ∧ 1 ≤ m := by
  intro o ho
  simp only [List.mem_cons, List.not_mem_nil, or_false] at ho
  rcases ho with rfl | rfl | rfl | rfl
  · exact ⟨1, by decide, by decide, by decide, by decide⟩
  · exact ⟨2, by decide, by decide, by decide, by decide⟩
  · exact ⟨3, by decide, by decide, by decide, by decide⟩
  · exact ⟨2, by decide, by decide, by decide, by decide⟩
theorem TInv.keep {K : PySem.W.Frag} {n : Nat} {d c u nl : Addr} {zs : List Str} {H0 H1 H : Hp} {b : Addr} {N : Int} {i : Nat} (T : TInv K n d c u nl zs H1 b N i H) (k : KeepW d c u H0 H1) (nb : H0 b = none) : KeepW d c u H0 H := by
  obtain ⟨vs, ds, hlen, hb, kk, _⟩ := T
  exact fun a o n1 n2 n3 e => kk a o n1 n2 n3 (ne_of_none e nb) (k a o n1 n2 n3 e)
theorem KeepW.free {d c u a : Addr} {H H' : Hp} (s : KeepW d c u H H') (na : H' a = none) (h1 : a ≠ d) (h2 : a ≠ c) (h3 : a ≠ u) : H a = none := by
  cases q : H a with
  | none => rfl
  | some o =>
    rw [s a o h1 h2 h3 q] at na
    cases na
section
variable {P : Program} {w : World} {K : PySem.W.Frag} {mg : Str → Option Value} {base : Heap}
abbrev s_law_rows : Stmt := topS 26
abbrev N_rows : List Str := ["_law_deck_here", "_law_world_here", "_law_deep", "_law_inside", "_law_table", "_law_word", "_law_extra", "_law_test", "_law_many", "_law_k"]
abbrev ps_term : List Str := ["_law_deck_here", "_law_world_here", "_law_deep", "_law_inside"]
theorem sc_law_rows : FnScope N_rows ps_term (defScope s_law_rows) := ⟨rfl, rfl, rfl, by decide +kernel, rfl, by decide +kernel, by decide +kernel⟩
/-- an aggregate whose parts are terms of depth n -/
def sp_rows (K : PySem.W.Frag) (n : Nat) : Sp := fun vs H Q _ => ∃ (d c u nl : Addr) (N deep ins : Int) (zs : List Str), vs = [.ref d, .ref u, .int deep, .int ins] ∧ Deck H d c N ∧ N + 10 + 6 * dr n < 2 ^ 58 ∧ Wo H d c u nl zs ∧ deep ≤ (n : Int) + 1 ∧
  ∀ H' v x, KeepW d c u H H' → Deck H' d c (N + 10 + 6 * dr n) → Wo H' d c u nl zs → Ex zs (n + 3) x → Dp K H' v x → Q v H'
theorem ok_rows {n : Nat} {f f_law_draw f_law_pick f_law_term : Addr} {fd fd_law_draw fd_law_pick fd_law_term : FuncData} {k : Nat} (F : Fun K "_law_rows" "_law_rows" s_law_rows f fd) (G_law_draw : FnOk P w K mg base CX0 k f_law_draw fd_law_draw ["_law_deck_here", "_law_most"] sp_draw)
    (g_law_draw : mg "_law_draw" = some (.ref f_law_draw)) (K_law_draw : PySem.W.keepIn K (.ref f_law_draw) = true) (b_law_draw : Binds K fd_law_draw ["_law_deck_here", "_law_most"] [])
    (G_law_pick : FnOk P w K mg base CX0 k f_law_pick fd_law_pick ["_law_deck_here", "_law_some"] (sp_pick K))
    (g_law_pick : mg "_law_pick" = some (.ref f_law_pick)) (K_law_pick : PySem.W.keepIn K (.ref f_law_pick) = true) (b_law_pick : Binds K fd_law_pick ["_law_deck_here", "_law_some"] [])
    (G_law_term : FnOk P w K mg base CX0 k f_law_term fd_law_term ps_term (sp_term K n))
    (g_law_term : mg "_law_term" = some (.ref f_law_term)) (K_law_term : PySem.W.keepIn K (.ref f_law_term) = true) (b_law_term : Binds K fd_law_term ps_term [])
    (mrange : mg "range" = none) (mtuple : mg "tuple" = none) :
    FnOk P w K mg base CX0 (k + 1) f fd ps_term (sp_rows K n) := by
  have nd := sc_law_rows.nd
  refine F.ok sc_law_rows (fun vs H Q E h => ?_) (fun cdv A outer s H vs Q E hr h => ?_)
  · obtain ⟨d, c, u, nl, N, deep, ins, zs, rfl, _⟩ := h
    rfl
  obtain ⟨d, c, u, nl, N, deep, ins, zs, rfl, D, hN, W, hdeep, q⟩ := h
  have hp := dr_pos n
  have hu1 : (A.deeper (envOfC "_law_rows" (defScope s_law_rows) s.heap.objs.size f cdv)).units + 1 < cLine := by
    have := hr.units
    omega
  refine ⟨_, (pss_cons (ps_set (i := 4) nd rfl (.inl rfl) (pe_call G_law_pick hr (by rfl) g_law_pick K_law_pick b_law_pick .nil pass0 (pa_cons (pv 0) (pa_cons (pe_dget hu1 (pv 1) pe_str noSl_str) pa_nil))))
      (pss_cons (ps_set (i := 5) nd rfl (.inl rfl) (pe_call G_law_pick hr (by rfl) g_law_pick K_law_pick b_law_pick .nil pass0 (pa_cons (pv 0) (pa_cons (pe_lst (pa_cons pe_str (pa_cons pe_str (pa_cons pe_str (pa_cons pe_str pa_nil))))) pa_nil))))
      (pss_cons (ps_par (i := 6) (j := 7) rfl nd rfl rfl (by decide) rfl rfl (pa_cons (pe_tup pa_nil) (pa_cons (pe_tup (pa_cons pe_str (pa_cons (pv 4) (pa_cons (pe_tup (pa_cons pe_str pa_nil)) (pa_cons pe_str pa_nil))))) pa_nil)) (by rfl))
      (Evl.pss_cut (ps_if (pt_cmpR op_eq (pe_call G_law_draw hr (by rfl) g_law_draw K_law_draw b_law_draw .nil pass0 (pa_cons (pv 0) (pa_cons pe_int pa_nil))) pe_int (nomark _))
      (pss_cons (ps_set (i := 6) nd rfl (.inl rfl) (pe_callTy call_tuple_of (by rfl) mtuple boot_tuple (pa_cons (pe_lc (own := [("_law_k", 9)]) rfl nd (pi_range1 rfl mrange (pa_cons (pe_call G_law_draw hr (by rfl) g_law_draw K_law_draw b_law_draw .nil pass0 (pa_cons (pv 0) (pa_cons pe_int pa_nil))) pa_nil)) (blkOk_by (N := N_rows) (sc := defScope s_law_rows) (by decide +kernel)) (fun _ _ _ _ _ => (pg_name (i := 9) nd rfl (Or.inl rfl))) (fun _ _ _ _ _ => pts_nil)
          (te := tCall (sp_term K n) [] E0 (tCons (tVar 0) (tCons (tVar 1) (tCons (tOp (rI0 fun i j => .int (i - j)) (tVar 2) (tC (.int 1))) (tCons (tVar 3) tNil)))))
          (fun _ _ _ _ _ => (pe_call G_law_term hr (by rfl) g_law_term K_law_term b_law_term .nil pass0 (pa_cons (pv 0) (pa_cons (pv 1) (pa_cons (pe_op op_sub (pv 2) pe_int) (pa_cons (pv 3) pa_nil))))))) pa_nil)))
        (pss_one (ps_if (pt_cmpR op_eq (pe_call G_law_draw hr (by rfl) g_law_draw K_law_draw b_law_draw .nil pass0 (pa_cons (pv 0) (pa_cons pe_int pa_nil))) pe_int (nomark _))
        (pss_one (ps_set (i := 7) nd rfl (.inl rfl) (pe_call G_law_term hr (by rfl) g_law_term K_law_term b_law_term .nil pass0 (pa_cons (pv 0) (pa_cons (pv 1) (pa_cons (pe_op op_sub (pv 2) pe_int) (pa_cons (pv 3) pa_nil)))))))
        pss_nil)))
      pss_nil)
      (pss_cons (ps_set (i := 8) nd rfl (.inl rfl) (pe_dget hu1 (pe_disp (pps_cons pe_str pe_int (pps_cons pe_str pe_int (pps_cons pe_str pe_int (pps_cons pe_str pe_int pps_nil)))) (by decide) rfl (by simp) (by decide)) (pv 5) noSl_name))
      (pss_one (ps_ret (pe_op op_catT (pe_tup (pa_cons (pv 5) (pa_cons (pv 4) (pa_cons (pv 6) (pa_cons (pv 7) pa_nil))))) (pe_callTy call_tuple_of (by rfl) mtuple boot_tuple (pa_cons (pe_lc (own := [("_law_k", 9)]) rfl nd (pi_range1 rfl mrange (pa_cons (pv 8) pa_nil)) (blkOk_by (N := N_rows) (sc := defScope s_law_rows) (by decide +kernel)) (fun _ _ _ _ _ => (pg_name (i := 9) nd rfl (Or.inl rfl))) (fun _ _ _ _ _ => pts_nil)
          (te := tCall (sp_term K n) [] E0 (tCons (tVar 0) (tCons (tVar 1) (tCons (tOp (rI0 fun i j => .int (i - j)) (tVar 2) (tC (.int 1))) (tCons (tVar 3) tNil)))))
          (fun _ _ _ _ _ => (pe_call G_law_term hr (by rfl) g_law_term K_law_term b_law_term .nil pass0 (pa_cons (pv 0) (pa_cons (pv 1) (pa_cons (pe_op op_sub (pv 2) pe_int) (pa_cons (pv 3) pa_nil))))))) pa_nil)))))))))), ?_⟩
  -- table
  obtain ⟨L, hL⟩ := W.dct
  refine ⟨.ref d, rfl, .ref u, rfl, u, .ref nl, rfl, ?_, .inl ⟨d, c, nl, N, _, rfl, D, by omega, .inl (.inl W.nms), ?_, ?_, W.nd, W.nc, fun H1 v1 k1 D1 hv1 => ?_⟩⟩
  · rw [← wK_names nl L]
    exact DGet.k (k := .inr "names") hL
  · intro e
    have := congrArg List.length e
    rw [List.length_map, W.len] at this
    cases this
  · rw [List.length_map, W.len]
    decide
  obtain ⟨t, ht, rfl⟩ := List.mem_map.mp hv1
  have W1 := W.keep D k1
  -- word
  refine ⟨.ref d, rfl, small_le (show 4 ≤ 1000 by decide), fun l nl' => ?_⟩
  have sl := same_upd (o := .lst [.str "count", .str "sum", .str "most", .str "first"]) nl'
  have hl := D1.new nl'
  have hl1 : SqL K (upd H1 l (.lst [.str "count", .str "sum", .str "most", .str "first"])) l (fours.map V.str) := .inl (.inl upd_same)
  refine .inl ⟨d, c, l, N + 1, _, rfl, D1.same sl, by omega, hl1, List.cons_ne_nil _ _, by decide, hl.1, hl.2, fun H2 v2 k2 D2 hv2 => ?_⟩
  obtain ⟨o, ho, rfl⟩ := List.mem_map.mp hv2
  have W2 := (W1.same sl).keep (D1.same sl) k2
  have k02 : KeepW d c u H H2 := ((k1.trans (Keep.of sl)).trans k2).w u
  clear hl1 hL
  -- the pair
  refine ⟨Nat.zero_le _, fun p0 np0 => ⟨.str t, rfl, Nat.le_trans (by decide) le2, fun p1 np1 => ⟨small_le (show 4 ≤ 1000 by decide), fun p2 np2 => ?_⟩⟩⟩
  have s0 := same_upd (o := .tup []) np0
  have s1 := same_upd (o := .tup [.str "key"]) np1
  have s2 := same_upd (o := .tup [.str "cell", .str t, .ref p1, .str "in"]) np2
  have s02 := (s0.trans s1).trans s2
  have x0 := s2 _ _ (s1 _ _ (show upd H2 p0 (.tup []) p0 = _ from upd_same))
  have x1 := s2 _ _ (show upd (upd H2 p0 (.tup [])) p1 (.tup [.str "key"]) p1 = _ from upd_same)
  have x2 : upd (upd (upd H2 p0 (.tup [])) p1 (.tup [.str "key"])) p2 (.tup [.str "cell", .str t, .ref p1, .str "in"]) p2 = some (.tup [.str "cell", .str t, .ref p1, .str "in"]) := upd_same
  refine ⟨_, _, rfl, ?_⟩
  revert s02 x0 x1 x2
  generalize upd (upd (upd H2 p0 (.tup [])) p1 (.tup [.str "key"])) p2 (.tup [.str "cell", .str t, .ref p1, .str "in"]) = H3
  intro s02 x0 x1 x2
  have k03 := k02.trans (KeepW.of s02)
  have D3 := D2.same s02
  have W3 := W2.same s02
  have dp0 : Dp K H3 (.ref p0) (.tuple []) := .tup (.inl (.inl x0)) .nil
  have dp2 : Dp K H3 (.ref p2) (.tuple [.str "cell", .str t, .tuple [.str "key"], .str "in"]) := .tup (.inl (.inl x2)) (.cons (.str _) (.cons (.str _) (.cons (.tup (.inl (.inl x1)) (.cons (.str _) .nil)) (.cons (.str _) .nil))))
  have ex2 : Ex zs (n + 2) (.tuple [.str "cell", .str t, .tuple [.str "key"], .str "in"]) := .cell (n + 1) t _ _ ht W.inn (.leaf n _ .key)
  refine ⟨fun σ' H' => ∃ (pe : Addr) (te : V) (xs : List PyData) (y : PyData), σ' = [some (.ref d), some (.ref u), some (.int deep), some (.int ins), some (.str t), some (.str o), some (.ref pe), some te, none, none] ∧ KeepW d c u H H' ∧ Deck H' d c (N + 5 + 3 * dr n) ∧ Wo H' d c u nl zs ∧
    Dp K H' (.ref pe) (.tuple xs) ∧ xs.length ≤ 2 ∧ (∀ x, x ∈ xs → Ex zs (n + 2) x) ∧ Dp K H' te y ∧ Ex zs (n + 2) y, ?_, ?_⟩
  · refine ⟨.ref d, rfl, d, c, N + 1 + 1, 2, rfl, D3, by omega, by decide, by decide, fun H4 r4 k4 D4 r40 r41 => ⟨rfl, _, rfl, ite2 (fun e4 => ?_) (fun e4 => ?_)⟩⟩
    · have W4 := W3.keep D3 k4
      refine ⟨.ref d, rfl, d, c, N + 1 + 1 + 1, 3, rfl, D4, by omega, by decide, by decide, fun H5 r5 k5 D5 r50 r51 => ?_⟩
      obtain ⟨m, rfl⟩ := Int.eq_ofNat_of_zero_le r50
      have W5 := W4.keep D4 k5
      refine ⟨(m : Int), rfl, by omega, by omega, fun B nB => ?_⟩
      have em : ((m : Int)).toNat = m := by omega
      rw [em]
      have hm : (m : Int) * dr n ≤ 2 * dr n := Int.mul_le_mul_of_nonneg_right (by omega) (by omega)
      refine lc_range (n := m) (fun i H' => TInv K n d c u nl zs H5 B (N + 1 + 1 + 1 + 1) i H') (TInv.start D5 W5 nB) ?_ ?_
      · rintro i H6 hi T
        exact ⟨rfl, yes_then ⟨.ref d, rfl, .ref u, rfl, .int deep, rfl, deep, 1, rfl, rfl, .int ins, rfl, TInv.step (E := E) D5 W5 nB T (by omega) (by omega) (by omega) (fun H' v h => h)⟩⟩
      · rintro H6 T
        have k36 := T.keep (((k4.trans k5).w u)) (Keep.free (k4.trans k5) nB (D5.new nB).1 (D5.new nB).2)
        obtain ⟨vs, ds, hlen, hb, kk, D6, W6, hdp, hex⟩ := T
        refine ⟨B, _, rfl, .inl ⟨.inl (.inl hb), fun l1 nl1 => ?_⟩⟩
        have s7 := same_upd (o := .tup vs) nl1
        have D7 := D6.same s7
        have W7 := W6.same s7
        have k37 := k36.trans (KeepW.of s7)
        have dpx : Dp K (upd H6 l1 (.tup vs)) (.ref l1) (.tuple ds) := .tup (.inl (.inl upd_same)) (dp_keepAll (KeepT.of s7) _ _ (flatDs_of fun y hy => (hex y hy).flat) hdp)
        have fds : flatD (.tuple ds) = true := by rw [flatD]; exact flatDs_of fun y hy => (hex y hy).flat
        have ldx : ds.length ≤ 2 := by
          rw [← dpAll_len hdp, hlen]
          omega
        revert D7 W7 k37 dpx
        generalize upd H6 l1 (.tup vs) = H7
        intro D7 W7 k37 dpx
        refine ⟨.ref d, rfl, d, c, _, 2, rfl, D7, by omega, by decide, by decide, fun H8 r8 k8 D8 r80 r81 => ⟨rfl, _, rfl, ite2 (fun e8 => ?_) (fun e8 => ?_)⟩⟩
        · have W8 := W7.keep D7 k8
          refine ⟨.ref d, rfl, .ref u, rfl, .int deep, rfl, deep, 1, rfl, rfl, .int ins, rfl, d, c, u, nl, _, deep - 1, ins, zs, rfl, D8, by omega, W8, by omega, fun H9 v x k9 D9 W9 he hv => ?_⟩
          refine ⟨l1, v, ds, x, rfl, (k03.trans k37).trans ((k8.w u).trans k9), D9.mono (by omega), W9, dp_keep ((k8.t D7).trans (k9.t D8 W8)) _ _ fds dpx, ldx, hex, hv, he⟩
        · refine ⟨l1, .ref p2, ds, _, rfl, (k03.trans k37).trans (k8.w u), D8.mono (by omega), W7.keep D7 k8, dp_keep (k8.t D7) _ _ fds dpx, ldx, hex, dp_keep ((k37.t D3 W3).trans (k8.t D7)) _ _ ex2.flat dp2, ex2⟩
    · exact ⟨p0, .ref p2, [], _, rfl, k03.trans (k4.w u), D4.mono (by omega), W3.keep D3 k4, dp_keep (k4.t D3) _ _ rfl dp0, Nat.zero_le _, fun x hx => (nomatch hx), dp_keep (k4.t D3) _ _ ex2.flat dp2, ex2⟩
  rintro σ' H4 ⟨pe, te, xs, y, rfl, k4, D4, W4, dpe, lxs, hxs, dte, hy⟩
  obtain ⟨m, hm1, hm2, hm3, hm4⟩ := many_of o ho
  intro p np
  have sp := same_upd (o := .dK []) np
  refine ⟨upd_same, manyK, rfl, by decide, .str o, rfl, p, .int (m : Int), rfl, by rw [← hm1]; exact DGet.k (k := .inr o) upd_same, ?_⟩
  have s5 : Same H4 (upd (upd H4 p (.dK [])) p (.dK (mergeK [] manyK))) := fun b ob e => by
    rw [upd_ne (ne_of_none e np)]
    exact sp _ _ e
  revert s5
  generalize upd (upd H4 p (.dK [])) p (.dK (mergeK [] manyK)) = H5
  intro s5
  refine ⟨.str o, rfl, .str t, rfl, .ref pe, rfl, te, rfl, small_le (show 4 ≤ 1000 by decide), fun a na => ?_⟩
  have s6 := same_upd (o := .tup [.str o, .str t, .ref pe, te]) na
  have ha : upd H5 a (.tup [.str o, .str t, .ref pe, te]) a = some (.tup [.str o, .str t, .ref pe, te]) := upd_same
  revert s6 ha
  generalize upd H5 a (.tup [.str o, .str t, .ref pe, te]) = H6
  intro s6 ha
  have s46 := s5.trans s6
  have k6 := k4.trans (KeepW.of s46)
  have D6 := D4.same s46
  have W6 := W4.same s46
  have fx : flatD (.tuple xs) = true := by rw [flatD]; exact flatDs_of fun x hx => (hxs x hx).flat
  refine ⟨.int (m : Int), rfl, (m : Int), rfl, by omega, by omega, fun B nB => ?_⟩
  have em : ((m : Int)).toNat = m := by omega
  rw [em]
  have hm : (m : Int) * dr n ≤ 3 * dr n := Int.mul_le_mul_of_nonneg_right (by omega) (by omega)
  refine lc_range (n := m) (fun i H' => TInv K n d c u nl zs H6 B (N + 5 + 3 * dr n) i H') (TInv.start D6 W6 nB) ?_ ?_
  · rintro i H7 hi T
    exact ⟨rfl, yes_then ⟨.ref d, rfl, .ref u, rfl, .int deep, rfl, deep, 1, rfl, rfl, .int ins, rfl, TInv.step (E := E) D6 W6 nB T (by omega) (by omega) (by omega) (fun H' v h => h)⟩⟩
  · rintro H7 T
    have k7 := T.keep KeepW.refl nB
    obtain ⟨vs, ds, hlen, hb, kk, D7, W7, hdp, hex⟩ := T
    refine ⟨B, _, rfl, .inl ⟨.inl (.inl hb), fun l nl1 => ?_⟩⟩
    have s8 := same_upd (o := .tup vs) nl1
    have t67 := k7.t D6 W6
    have t68 := t67.trans (KeepT.of s8)
    have ha8 := t68.1 _ _ ha
    have hl8 : upd H7 l (.tup vs) l = some (.tup vs) := upd_same
    refine ⟨a, l, _, _, rfl, rfl, .inl (.inl ha8), .inl (.inl hl8), List.cons_ne_nil _ _, ?_, fun e => ?_, fun _ r nr => ?_⟩
    · rw [hlen]
      exact small_le (show 4 + m ≤ 1000 by omega)
    · rw [e] at hlen
      rw [← hlen] at hm4
      exact absurd hm4 (by decide)
    have s9 := same_upd (o := .tup ([.str o, .str t, .ref pe, te] ++ vs)) nr
    have t69 := t68.trans (KeepT.of s9)
    have t49 := (KeepT.of s46).trans t69
    refine q _ _ (.tuple (.str o :: .str t :: .tuple xs :: y :: ds)) (k6.trans (k7.trans (KeepW.of (s8.trans s9)))) (((D7.same s8).same s9).mono (by omega)) ((W7.same s8).same s9) ?_ ?_
    · refine .agg (n + 2) o t xs (y :: ds) ?_ ht lxs hxs ?_
      · rw [List.length_cons, ← dpAll_len hdp, hlen]
        exact hm2
      · intro z hz
        rcases List.mem_cons.mp hz with rfl | hz
        · exact hy
        · exact hex z hz
    · refine .tup (.inl (.inl upd_same)) (.cons (.str o) (.cons (.str t) (.cons (dp_keep t49 _ _ fx dpe) (.cons (dp_keep t49 _ _ hy.flat dte) ?_))))
      exact dp_keepAll ((KeepT.of s8).trans (KeepT.of s9)) _ _ (flatDs_of fun z hz => (hex z hz).flat) hdp
end
end K6

namespace K6
open PySem PySem.Spec PyProof.Rows L2 GR
abbrev sevens : List Str := ["+", "-", "*", "<", "=", "at", "at"]
theorem seven_op : ∀ o, o ∈ sevens → o ∈ opws := by
  intro o ho
  simp only [List.mem_cons, List.not_mem_nil, or_false] at ho
  rcases ho with rfl | rfl | rfl | rfl | rfl | rfl | rfl <;> decide
section
variable {P : Program} {w : World} {K : PySem.W.Frag} {mg : Str → Option Value} {base : Heap}
abbrev s_law_term : Stmt := topS 27
abbrev N_term : List Str := ["_law_deck_here", "_law_world_here", "_law_deep", "_law_inside", "_law_way", "_law_one", "_law_other"]
theorem sc_law_term : FnScope N_term ps_term (defScope s_law_term) := ⟨rfl, rfl, rfl, by decide +kernel, rfl, by decide +kernel, by decide +kernel⟩
/-- one step: the terms of depth n, the aggregates upon them give the terms of depth n + 1; at depth 0 there are leaves only (j = 0) -/
theorem ok_term_step {j : Nat} {f f_law_draw f_law_pick f_law_leaf f_law_rows : Addr} {fd fd_law_draw fd_law_pick fd_law_leaf fd_law_rows : FuncData} {k : Nat} (F : Fun K "_law_term" "_law_term" s_law_term f fd) (G_law_draw : FnOk P w K mg base CX0 k f_law_draw fd_law_draw ["_law_deck_here", "_law_most"] sp_draw)
    (g_law_draw : mg "_law_draw" = some (.ref f_law_draw)) (K_law_draw : PySem.W.keepIn K (.ref f_law_draw) = true) (b_law_draw : Binds K fd_law_draw ["_law_deck_here", "_law_most"] [])
    (G_law_pick : FnOk P w K mg base CX0 k f_law_pick fd_law_pick ["_law_deck_here", "_law_some"] (sp_pick K))
    (g_law_pick : mg "_law_pick" = some (.ref f_law_pick)) (K_law_pick : PySem.W.keepIn K (.ref f_law_pick) = true) (b_law_pick : Binds K fd_law_pick ["_law_deck_here", "_law_some"] [])
    (G_law_leaf : FnOk P w K mg base CX0 k f_law_leaf fd_law_leaf ["_law_deck_here", "_law_world_here"] (sp_leaf K))
    (g_law_leaf : mg "_law_leaf" = some (.ref f_law_leaf)) (K_law_leaf : PySem.W.keepIn K (.ref f_law_leaf) = true) (b_law_leaf : Binds K fd_law_leaf ["_law_deck_here", "_law_world_here"] [])
    (G_law_rows : FnOk P w K mg base CX0 k f_law_rows fd_law_rows ps_term (fun vs H Q E => ∃ n, j = n + 1 ∧ sp_rows K n vs H Q E))
    (g_law_rows : mg "_law_rows" = some (.ref f_law_rows)) (K_law_rows : PySem.W.keepIn K (.ref f_law_rows) = true) (b_law_rows : Binds K fd_law_rows ps_term [])
    (G_law_term : FnOk P w K mg base CX0 k f fd ps_term (fun vs H Q E => ∃ n, j = n + 1 ∧ sp_term K n vs H Q E))
    (g_law_term : mg "_law_term" = some (.ref f)) (K_law_term : PySem.W.keepIn K (.ref f) = true) (b_law_term : Binds K fd ps_term []) :
    FnOk P w K mg base CX0 (k + 1) f fd ps_term (sp_term K j) := by
  have nd := sc_law_term.nd
  refine F.ok sc_law_term (fun vs H Q E h => ?_) (fun cdv A outer s H vs Q E hr h => ?_)
  · obtain ⟨d, c, u, nl, N, deep, ins, zs, rfl, _⟩ := h
    rfl
  obtain ⟨d, c, u, nl, N, deep, ins, zs, rfl, D, hN, W, hdeep, q⟩ := h
  have hp := dr_pos j
  have hu1 : (A.deeper (envOfC "_law_term" (defScope s_law_term) s.heap.objs.size f cdv)).units + 1 < cLine := by
    have := hr.units
    omega
  refine ⟨_, (pss_cons (ps_asg (pe_op op_sub (pe_dget hu1 (pv 1) pe_str noSl_str) pe_int) (pg_sub (pv 1) pe_str (set_dict hu1)))
      (pss_cons (ps_set (i := 4) nd rfl (.inl rfl) (pe_call G_law_draw hr (by rfl) g_law_draw K_law_draw b_law_draw .nil pass0 (pa_cons (pv 0) (pa_cons pe_int pa_nil))))
      (pss_cons (ps_if (PW.pt (pw_or (pt_cmpR op_lt (pv 2) pe_int (nomark _)) (pw_or (pt_cmpR op_lt (pe_dget hu1 (pv 1) pe_str noSl_str) pe_int (nomark _)) (pw_or1 (pt_cmpR op_lt (pv 4) pe_int (nomark _))))))
      (pss_one (ps_ret (pe_call G_law_leaf hr (by rfl) g_law_leaf K_law_leaf b_law_leaf .nil pass0 (pa_cons (pv 0) (pa_cons (pv 1) pa_nil)))))
      pss_nil)
      (Evl.pss_cut (ps_if (PW.pt (pw_and (pt_cmpR op_gt (pv 4) pe_int (nomark _)) (pw_and1 (pt_cmpR op_lt (pv 3) pe_int (nomark _)))))
      (pss_one (ps_ret (pe_call G_law_rows hr (by rfl) g_law_rows K_law_rows b_law_rows .nil pass0 (pa_cons (pv 0) (pa_cons (pv 1) (pa_cons (pv 2) (pa_cons (pe_op op_add (pv 3) pe_int) pa_nil)))))))
      pss_nil)
      (pss_cons (ps_set (i := 5) nd rfl (.inl rfl) (pe_call G_law_term hr (by rfl) g_law_term K_law_term b_law_term .nil pass0 (pa_cons (pv 0) (pa_cons (pv 1) (pa_cons (pe_op op_sub (pv 2) pe_int) (pa_cons (pv 3) pa_nil))))))
      (pss_cons (ps_if (pt_cmpR op_lt (pv 4) pe_int (nomark _))
      (pss_one (ps_ret (pe_tup (pa_cons pe_str (pa_cons (pe_call G_law_pick hr (by rfl) g_law_pick K_law_pick b_law_pick .nil pass0 (pa_cons (pv 0) (pa_cons (pe_dget hu1 (pv 1) pe_str noSl_str) pa_nil))) (pa_cons (pv 5) (pa_cons (pe_call G_law_pick hr (by rfl) g_law_pick K_law_pick b_law_pick .nil pass0 (pa_cons (pv 0) (pa_cons (pe_dget hu1 (pv 1) pe_str noSl_str) pa_nil))) pa_nil)))))))
      pss_nil)
      (pss_cons (ps_set (i := 6) nd rfl (.inl rfl) (pe_call G_law_term hr (by rfl) g_law_term K_law_term b_law_term .nil pass0 (pa_cons (pv 0) (pa_cons (pv 1) (pa_cons (pe_op op_sub (pv 2) pe_int) (pa_cons (pv 3) pa_nil))))))
      (pss_cons (ps_if (pt_cmpR op_eq (pv 4) pe_int (nomark _))
      (pss_one (ps_ret (pe_tup (pa_cons pe_str (pa_cons (pv 5) (pa_cons (pv 6) (pa_cons (pe_call G_law_term hr (by rfl) g_law_term K_law_term b_law_term .nil pass0 (pa_cons (pv 0) (pa_cons (pv 1) (pa_cons (pe_op op_sub (pv 2) pe_int) (pa_cons (pv 3) pa_nil))))) pa_nil)))))))
      pss_nil)
      (pss_one (ps_ret (pe_tup (pa_cons (pe_call G_law_pick hr (by rfl) g_law_pick K_law_pick b_law_pick .nil pass0 (pa_cons (pv 0) (pa_cons (pe_lst (pa_cons pe_str (pa_cons pe_str (pa_cons pe_str (pa_cons pe_str (pa_cons pe_str (pa_cons pe_str (pa_cons pe_str pa_nil)))))))) pa_nil))) (pa_cons (pv 5) (pa_cons (pv 6) pa_nil)))))))))))))), ?_⟩
  -- one less may come
  obtain ⟨L, hL⟩ := W.dct
  refine ⟨.ref u, rfl, u, .int L, rfl, by rw [← wK_left nl L]; exact DGet.k (k := .inr "left") hL, L, 1, rfl, rfl, .ref u, rfl, u, _, rfl, DPut.k (k := .inr "left") hL (small1000 (show 2 ≤ 1000 by decide)), ?_⟩
  rw [wK_put]
  have hud := W.ud D
  have k1 : KeepW d c u H (upd H u (.dK (wK nl (L - 1)))) := fun b o n1 n2 n3 e => by
    rw [upd_ne n3]
    exact e
  have D1 := D.upd (o := .dK (wK nl (L - 1))) hud.1 hud.2
  have W1 : Wo (upd H u (.dK (wK nl (L - 1)))) d c u nl zs := by
    refine ⟨⟨L - 1, upd_same⟩, ?_, W.nd, W.nc, W.len, W.all, W.inn⟩
    rw [upd_ne W.un]
    exact W.nms
  revert k1 D1 W1
  generalize upd H u (.dK (wK nl (L - 1))) = H1
  intro k1 D1 W1
  clear hL
  refine ⟨.ref d, rfl, d, c, N, 14, rfl, D1, by omega, by decide, by decide, fun H2 way k2 D2 w0 w1 => ?_⟩
  have W2 := W1.keep D1 k2
  have k02 := k1.trans (k2.w u)
  obtain ⟨L2', hL2⟩ := W2.dct
  have lf : ∀ E', sp_leaf K [.ref d, .ref u] H2 Q E' := fun E' => ⟨d, c, u, nl, N + 1, zs, rfl, D2, by omega, W2, fun H' v x k D' hx hv => q H' v x (k02.trans (k.w u)) (D'.mono (by omega)) (W2.keep D2 k) (.leaf (j + 1) x hx) hv⟩
  refine ⟨.int deep, rfl, _, _, rfl, rfl, _, rfl, ite2 (fun e1 => iteT ⟨.ref d, rfl, .ref u, rfl, lf E⟩) (fun e1 => ⟨.ref u, rfl, u, .int L2', rfl, by rw [← wK_left nl L2']; exact DGet.k (k := .inr "left") hL2, _, _, rfl, rfl, _, rfl, ite2 (fun e2 => iteT ⟨.ref d, rfl, .ref u, rfl, lf E⟩) (fun e2 => ⟨.int way, rfl, _, _, rfl, rfl, _, rfl, ite2 (fun e3 => ⟨.ref d, rfl, .ref u, rfl, lf E⟩) (fun e3 => ?_)⟩)⟩)⟩
  have hd1 : ¬ deep < 1 := fun z => e1 (decide_eq_true z)
  obtain ⟨n, rfl⟩ : ∃ n, j = n + 1 := ⟨j - 1, by omega⟩
  have hpn := dr_pos n
  have hdr : dr (n + 1) = 20 + 6 * dr n := rfl
  have hlen7 : zs.map V.str ≠ [] := by
    intro e
    have := congrArg List.length e
    rw [List.length_map, W2.len] at this
    cases this
  have hlen8 : (zs.map V.str).length ≤ 1000 := by
    rw [List.length_map, W2.len]
    decide
  refine ⟨fun σ' H' => σ' = [some (.ref d), some (.ref u), some (.int deep), some (.int ins), some (.int way), none, none] ∧ H' = H2, ?_, ?_⟩
  · refine ⟨.int way, rfl, _, _, rfl, rfl, _, rfl, ite2 (fun e4 => ⟨.int ins, rfl, _, _, rfl, rfl, _, rfl, ite2 (fun e5 => ?_) (fun e5 => ⟨rfl, rfl⟩)⟩) (fun e4 => iteF ⟨rfl, rfl⟩)⟩
    exact ⟨.ref d, rfl, .ref u, rfl, .int deep, rfl, .int ins, rfl, ins, 1, rfl, rfl, n, rfl, d, c, u, nl, N + 1, deep, ins + 1, zs, rfl, D2, by omega, W2, by omega, fun H' v x k D' W' hx hv => q H' v x (k02.trans k) (D'.mono (by omega)) W' hx hv⟩
  rintro σ' H' ⟨rfl, rfl⟩
  refine ⟨.ref d, rfl, .ref u, rfl, .int deep, rfl, deep, 1, rfl, rfl, .int ins, rfl, n, rfl, d, c, u, nl, N + 1, deep - 1, ins, zs, rfl, D2, by omega, W2, by omega, fun H3 v1 x1 k3 D3 W3 he1 hv1 => ?_⟩
  have k03 := k02.trans k3
  refine ⟨.int way, rfl, _, _, rfl, rfl, _, rfl, ite2 (fun e6 => ?_) (fun e6 => ?_)⟩
  · -- a cell
    obtain ⟨L3, hL3⟩ := W3.dct
    refine ⟨.ref d, rfl, .ref u, rfl, u, .ref nl, rfl, by rw [← wK_names nl L3]; exact DGet.k (k := .inr "names") hL3, .inl ⟨d, c, nl, _, _, rfl, D3, by omega, .inl (.inl W3.nms), hlen7, hlen8, W3.nd, W3.nc, fun H4 v4 k4 D4 hv4 => ?_⟩⟩
    obtain ⟨t, ht, rfl⟩ := List.mem_map.mp hv4
    have W4 := W3.keep D3 k4
    obtain ⟨L4, hL4⟩ := W4.dct
    refine ⟨v1, rfl, .ref d, rfl, .ref u, rfl, u, .ref nl, rfl, by rw [← wK_names nl L4]; exact DGet.k (k := .inr "names") hL4, .inl ⟨d, c, nl, _, _, rfl, D4, by omega, .inl (.inl W4.nms), hlen7, hlen8, W4.nd, W4.nc, fun H5 v5 k5 D5 hv5 => ?_⟩⟩
    obtain ⟨y, hy, rfl⟩ := List.mem_map.mp hv5
    have W5 := W4.keep D4 k5
    refine ⟨small_le (show 4 ≤ 1000 by decide), fun p np => ?_⟩
    have s := same_upd (o := .tup [.str "cell", .str t, v1, .str y]) np
    refine q _ _ _ (k03.trans (((k4.trans k5).w u).trans (KeepW.of s))) ((D5.same s).mono (by omega)) (W5.same s) (.cell (n + 2) t y x1 ht hy he1) (.tup (.inl (.inl upd_same)) (.cons (.str _) (.cons (.str t) (.cons ?_ (.cons (.str y) .nil)))))
    exact dp_keep (((k4.t D3).trans (k5.t D4)).trans (KeepT.of s)) _ _ he1.flat hv1
  refine ⟨.ref d, rfl, .ref u, rfl, .int deep, rfl, deep, 1, rfl, rfl, .int ins, rfl, n, rfl, d, c, u, nl, _, deep - 1, ins, zs, rfl, D3, by omega, W3, by omega, fun H4 v2 x2 k4 D4 W4 he2 hv2 => ?_⟩
  have k04 := k03.trans k4
  have t4 := k4.t D3 W3
  refine ⟨.int way, rfl, rfl, _, rfl, ite2 (fun e7 => ?_) (fun e7 => ?_)⟩
  · -- an if
    refine ⟨v1, rfl, v2, rfl, .ref d, rfl, .ref u, rfl, .int deep, rfl, deep, 1, rfl, rfl, .int ins, rfl, n, rfl, d, c, u, nl, _, deep - 1, ins, zs, rfl, D4, by omega, W4, by omega, fun H5 v3 x3 k5 D5 W5 he3 hv3 => ⟨small_le (show 4 ≤ 1000 by decide), fun p np => ?_⟩⟩
    have s := same_upd (o := .tup [.str "if", v1, v2, v3]) np
    have t5 := k5.t D4 W4
    refine q _ _ _ (k04.trans (k5.trans (KeepW.of s))) ((D5.same s).mono (by omega)) (W5.same s) (.iff (n + 2) x1 x2 x3 he1 he2 he3) (.tup (.inl (.inl upd_same)) (.cons (.str _) (.cons ?_ (.cons ?_ (.cons ?_ .nil)))))
    · exact dp_keep ((t4.trans t5).trans (KeepT.of s)) _ _ he1.flat hv1
    · exact dp_keep (t5.trans (KeepT.of s)) _ _ he2.flat hv2
    · exact dp_keep (KeepT.of s) _ _ he3.flat hv3
  -- one of two
  refine ⟨.ref d, rfl, small_le (show 7 ≤ 1000 by decide), fun l nl' => ?_⟩
  have sl := same_upd (o := .lst [.str "+", .str "-", .str "*", .str "<", .str "=", .str "at", .str "at"]) nl'
  have hl := D4.new nl'
  have hl1 : SqL K (upd H4 l (.lst [.str "+", .str "-", .str "*", .str "<", .str "=", .str "at", .str "at"])) l (sevens.map V.str) := .inl (.inl upd_same)
  have D5 := D4.same sl
  have W5 := W4.same sl
  refine .inl ⟨d, c, l, _, _, rfl, D5, by omega, hl1, List.cons_ne_nil _ _, by decide, hl.1, hl.2, fun H6 v6 k6 D6 hv6 => ?_⟩
  obtain ⟨o, ho, rfl⟩ := List.mem_map.mp hv6
  have W6 := W5.keep D5 k6
  have t6 := (KeepT.of sl).trans (k6.t D5)
  refine ⟨v1, rfl, v2, rfl, small_le (show 3 ≤ 1000 by decide), fun p np => ?_⟩
  have s := same_upd (o := .tup [.str o, v1, v2]) np
  refine q _ _ _ (k04.trans ((KeepW.of sl).trans ((k6.w u).trans (KeepW.of s)))) ((D6.same s).mono (by omega)) (W6.same s) (.op (n + 2) o x1 x2 (seven_op o ho) he1 he2) (.tup (.inl (.inl upd_same)) (.cons (.str o) (.cons ?_ (.cons ?_ .nil))))
  · exact dp_keep ((t4.trans t6).trans (KeepT.of s)) _ _ he1.flat hv1
  · exact dp_keep (t6.trans (KeepT.of s)) _ _ he2.flat hv2
end
end K6

namespace K6
open PySem PySem.Spec PyProof.Rows L2 GR
section
variable {P : Program} {w : World} {K : PySem.W.Frag} {mg : Str → Option Value} {base : Heap}
theorem ok_none {k : Nat} {f : Addr} {fd : FuncData} {ps : List Str} {sp : Sp} (h : ∀ vs H Q E, ¬ sp vs H Q E) : FnOk P w K mg base CX0 k f fd ps sp :=
  ⟨fun vs H Q E q => absurd q (h vs H Q E), fun A outer s H args us vs Q E hr he hb hv hs => absurd hs (h vs H Q E)⟩
/-- terms of each depth, two levels a depth -/
theorem ok_terms {f f_law_draw f_law_pick f_law_leaf f_law_rows : Addr} {fd fd_law_draw fd_law_pick fd_law_leaf fd_law_rows : FuncData} {k : Nat} (F : Fun K "_law_term" "_law_term" s_law_term f fd) (R : Fun K "_law_rows" "_law_rows" s_law_rows f_law_rows fd_law_rows)
    (G_law_draw : FnOk P w K mg base CX0 k f_law_draw fd_law_draw ["_law_deck_here", "_law_most"] sp_draw)
    (g_law_draw : mg "_law_draw" = some (.ref f_law_draw)) (K_law_draw : PySem.W.keepIn K (.ref f_law_draw) = true) (b_law_draw : Binds K fd_law_draw ["_law_deck_here", "_law_most"] [])
    (G_law_pick : FnOk P w K mg base CX0 k f_law_pick fd_law_pick ["_law_deck_here", "_law_some"] (sp_pick K))
    (g_law_pick : mg "_law_pick" = some (.ref f_law_pick)) (K_law_pick : PySem.W.keepIn K (.ref f_law_pick) = true) (b_law_pick : Binds K fd_law_pick ["_law_deck_here", "_law_some"] [])
    (G_law_leaf : FnOk P w K mg base CX0 k f_law_leaf fd_law_leaf ["_law_deck_here", "_law_world_here"] (sp_leaf K))
    (g_law_leaf : mg "_law_leaf" = some (.ref f_law_leaf)) (K_law_leaf : PySem.W.keepIn K (.ref f_law_leaf) = true) (b_law_leaf : Binds K fd_law_leaf ["_law_deck_here", "_law_world_here"] [])
    (g_law_rows : mg "_law_rows" = some (.ref f_law_rows)) (K_law_rows : PySem.W.keepIn K (.ref f_law_rows) = true) (b_law_rows : Binds K fd_law_rows ps_term [])
    (g_law_term : mg "_law_term" = some (.ref f)) (K_law_term : PySem.W.keepIn K (.ref f) = true) (b_law_term : Binds K fd ps_term [])
    (mrange : mg "range" = none) (mtuple : mg "tuple" = none) : ∀ n : Nat, FnOk P w K mg base CX0 (k + 2 * n + 1) f fd ps_term (sp_term K n)
  | 0 => ok_term_step F G_law_draw g_law_draw K_law_draw b_law_draw G_law_pick g_law_pick K_law_pick b_law_pick G_law_leaf g_law_leaf K_law_leaf b_law_leaf (ok_none fun vs H Q E ⟨n, h, _⟩ => by omega) g_law_rows K_law_rows b_law_rows (ok_none fun vs H Q E ⟨n, h, _⟩ => by omega) g_law_term K_law_term b_law_term
  | n + 1 => by
    have ih := ok_terms F R G_law_draw g_law_draw K_law_draw b_law_draw G_law_pick g_law_pick K_law_pick b_law_pick G_law_leaf g_law_leaf K_law_leaf b_law_leaf g_law_rows K_law_rows b_law_rows g_law_term K_law_term b_law_term mrange mtuple n
    have rw1 := ok_rows (n := n) R (G_law_draw.mono (show k ≤ k + 2 * n + 1 by omega)) g_law_draw K_law_draw b_law_draw (G_law_pick.mono (show k ≤ k + 2 * n + 1 by omega)) g_law_pick K_law_pick b_law_pick ih g_law_term K_law_term b_law_term mrange mtuple
    refine ok_term_step (k := k + 2 * n + 2) F (G_law_draw.mono (by omega)) g_law_draw K_law_draw b_law_draw (G_law_pick.mono (by omega)) g_law_pick K_law_pick b_law_pick (G_law_leaf.mono (by omega)) g_law_leaf K_law_leaf b_law_leaf (rw1.imp ?_) g_law_rows K_law_rows b_law_rows ((ih.mono (by omega)).imp ?_) g_law_term K_law_term b_law_term
    · rintro vs H Q E ⟨m, hm, h⟩
      obtain rfl : n = m := by omega
      exact h
    · rintro vs H Q E ⟨m, hm, h⟩
      obtain rfl : n = m := by omega
      exact h
end
end K6

namespace WX
open PySem PySem.Spec PySem.AutoSeq1
theorem ext_tup (l : Addr) (items : Array Value) (n : Nat) (b : Addr) (items2 : Array Value) (n2 : Nat) (dd : Option Addr) (sl : Array (Option Value)) (hs0 : ¬(!items.isEmpty && Builtin.List.listTooLong (items.size + items2.size)) = true) (hs1 : items.size ≤ sizeLine) (hs2 : items.size + items2.size ≤ sizeLine + 1) :
    Meets (Builtin.«list.extend» ⟨[.ref l, .ref b], []⟩) (fun _ R s => s.heap.get? l = some { cls := .type "list", dict := none, data := .seq items n, slots := #[] } ∧ s.heap.get? b = some { cls := .type "tuple", dict := dd, data := .seq items2 n2, slots := sl } ∧ R (.ok (.ret Value.none)) { s with heap := s.heap.update l (Obj.mapSeq fun x => x ++ items2), toks := s.toks }) := by
  refine .of_wp fun prog w A R s h => ?_
  obtain ⟨hp, g, d, tk, os⟩ := s
  obtain ⟨hl, hb, h⟩ := h
  have f1 := idx_int
  have f2 := sub_tuple_tuple
  have f3 := sub_list_list
  have f4 := sub_tuple_list
  have f5 := sub_list_tuple
  have hz' : (items ++ items2).size ≤ sizeLine + 1 := by
    rw [Array.size_append]
    exact hs2
  wp_walk using (wpAny_updateSeq hl rfl (hz := hs1) (_hz' := hz')), wpAny_loadPart' hl, wpAny_loadPart' hb
  exact ⟨_, rfl, h⟩
end WX

/-! Words that the hand layer lacks: a list extended by a tuple. -/
namespace WX
open PySem PySem.Spec PyProof.Rows L2
def rExtendT (K : PySem.W.Frag) : V → List V → Hp → VK → Prop := fun x vs H Q => ∃ (l b : Addr) (xs zs : List V), x = .ref l ∧ vs = [.ref b] ∧ H l = some (.lst xs) ∧ SqT K H b zs ∧ xs.length + zs.length ≤ sizeLine ∧ Q .non (upd H l (.lst (xs ++ zs)))
section
variable {X : Cx}
theorem mt_extendT : MtM X "list.extend" (rExtendT X.K) := by
  intro pins s σ H x vs v us Q I rx rv h
  obtain ⟨l, b, xs, zs, rfl, rfl, hH, hB, hz, q⟩ := h
  cases rx
  obtain ⟨u, rfl, ru⟩ := rv.one
  cases ru
  obtain ⟨z, its, n, r, hl, e⟩ := I.lstM hH
  obtain ⟨its2, r2, ⟨⟨c2, d2, dat2, sl2⟩, g2, hc2, n2, hd2⟩, z2⟩ := I.tuple hB
  have hc2 : c2 = .type "tuple" := hc2
  have hd2 : dat2 = .seq its2.toArray n2 := hd2
  subst hc2
  subst hd2
  have hl2 := r2.length
  have small : its.toArray.size + its2.toArray.size ≤ sizeLine := by
    rw [List.size_toArray, List.size_toArray]
    omega
  have short : ¬ (!its.toArray.isEmpty && Builtin.List.listTooLong (its.toArray.size + its2.toArray.size)) = true := by
    rw [notLongL small, Bool.and_false]
    exact Bool.false_ne_true
  refine call_meets F.slot_list_extend ⟨_, e, rfl⟩ F.entry_list_extend (F.args_list_extend_2 _ _)
    (ext_tup l its.toArray n b its2.toArray n2 d2 sl2 short (by rw [List.size_toArray]; omega) (by omega)) ⟨e, g2, ?_⟩
  refine ⟨.non, _, I.lset (its' := its ++ its2) hH e (by simp) (r.append r2) ?_, rfl, q⟩
  rw [List.length_append]
  omega
/-- a list extended by a list or by a tuple -/
def rExtendA (K : PySem.W.Frag) : V → List V → Hp → VK → Prop := fun x vs H Q => rExtend x vs H Q ∨ rExtendT K x vs H Q
theorem mt_extendA : MtM X "list.extend" (rExtendA X.K) := by
  intro pins s σ H x vs v us Q I rx rv h
  rcases h with h | h
  · exact mt_extend pins s σ H x vs v us Q I rx rv h
  · exact mt_extendT pins s σ H x vs v us Q I rx rv h
end
end WX

namespace K6
open PySem PySem.Spec PyProof.Rows L2 GR
/-- what stands behind each word -/
def table : List (Str × List Str) := [("int", ["value"]), ("var", ["name"]), ("key", []), ("let", ["position"]), ("cell", ["name", "free", "name"]), ("+", ["free", "free"]), ("-", ["free", "free"]), ("*", ["free", "free"]), ("<", ["free", "free"]), ("=", ["free", "free"]),
  ("if", ["free", "free", "free"]), ("at", ["free", "bound"]), ("count", ["name", "extra", "bound", "bound"]), ("sum", ["name", "extra", "bound", "bound", "bound"]), ("most", ["name", "extra", "bound", "bound", "bound", "free"]), ("first", ["name", "extra", "bound", "bound", "free"])]
def items : PyData → List PyData
  | .tuple xs => xs
  | _ => []
def pick (wanted : List Str) : List Str → List PyData → List PyData
  | f :: fs, d :: ds => (if f = "extra" then items d else if f ∈ wanted then [d] else []) ++ pick wanted fs ds
  | _, _ => []
/-- what stands behind the word fits its kinds, as far as contained_of asks -/
inductive Fits : List Str → List PyData → Prop
  | nil : Fits [] []
  | cons {f : Str} {d : PyData} {fs : List Str} {ds : List PyData} : (f = "extra" → ∃ xs, d = .tuple xs) → Fits fs ds → Fits (f :: fs) (d :: ds)
/-- the form of an expression -/
def Form (x : PyData) (w : Str) (fs : List Str) (rest : List PyData) : Prop := x = .tuple (.str w :: rest) ∧ (w, fs) ∈ table ∧ Fits fs rest
theorem fit1 {f : Str} {d : PyData} {fs : List Str} {ds : List PyData} (h : f ≠ "extra") (t : Fits fs ds) : Fits (f :: fs) (d :: ds) := .cons (fun e => absurd e h) t
theorem Ex.form {zs : List Str} {n : Nat} {x : PyData} (h : Ex zs n x) : ∃ w fs rest, Form x w fs rest := by
  cases h with
  | leaf n x h =>
    cases h with
    | int i _ _ => exact ⟨"int", ["value"], _, rfl, by decide, fit1 (by decide) .nil⟩
    | let_ i _ _ => exact ⟨"let", ["position"], _, rfl, by decide, fit1 (by decide) .nil⟩
    | key => exact ⟨"key", [], _, rfl, by decide, .nil⟩
    | var z _ => exact ⟨"var", ["name"], _, rfl, by decide, fit1 (by decide) .nil⟩
  | cell n t v x h1 h2 h3 => exact ⟨"cell", ["name", "free", "name"], _, rfl, by decide, fit1 (by decide) (fit1 (by decide) (fit1 (by decide) .nil))⟩
  | op n o x y h1 h2 h3 =>
    simp only [opws, List.mem_cons, List.not_mem_nil, or_false] at h1
    rcases h1 with rfl | rfl | rfl | rfl | rfl | rfl
    · exact ⟨_, ["free", "free"], _, rfl, by decide, fit1 (by decide) (fit1 (by decide) .nil)⟩
    · exact ⟨_, ["free", "free"], _, rfl, by decide, fit1 (by decide) (fit1 (by decide) .nil)⟩
    · exact ⟨_, ["free", "free"], _, rfl, by decide, fit1 (by decide) (fit1 (by decide) .nil)⟩
    · exact ⟨_, ["free", "free"], _, rfl, by decide, fit1 (by decide) (fit1 (by decide) .nil)⟩
    · exact ⟨_, ["free", "free"], _, rfl, by decide, fit1 (by decide) (fit1 (by decide) .nil)⟩
    · exact ⟨_, ["free", "bound"], _, rfl, by decide, fit1 (by decide) (fit1 (by decide) .nil)⟩
  | iff n x y z h1 h2 h3 => exact ⟨"if", ["free", "free", "free"], _, rfl, by decide, fit1 (by decide) (fit1 (by decide) (fit1 (by decide) .nil))⟩
  | agg n o t xs ys h1 h2 h3 h4 h5 =>
    have tl : ∀ d : PyData, (("extra" : Str) = "extra" → ∃ us, d = .tuple us) ∨ True := fun _ => .inr trivial
    simp only [aggs, List.mem_cons, List.not_mem_nil, or_false, Prod.mk.injEq] at h1
    rcases h1 with ⟨rfl, h⟩ | ⟨rfl, h⟩ | ⟨rfl, h⟩ | ⟨rfl, h⟩
    · match ys, h with
      | [_, _], _ => exact ⟨_, ["name", "extra", "bound", "bound"], _, rfl, by decide, fit1 (by decide) (.cons (fun _ => ⟨xs, rfl⟩) (fit1 (by decide) (fit1 (by decide) .nil)))⟩
    · match ys, h with
      | [_, _, _], _ => exact ⟨_, ["name", "extra", "bound", "bound", "bound"], _, rfl, by decide, fit1 (by decide) (.cons (fun _ => ⟨xs, rfl⟩) (fit1 (by decide) (fit1 (by decide) (fit1 (by decide) .nil))))⟩
    · match ys, h with
      | [_, _, _, _], _ => exact ⟨_, ["name", "extra", "bound", "bound", "bound", "free"], _, rfl, by decide, fit1 (by decide) (.cons (fun _ => ⟨xs, rfl⟩) (fit1 (by decide) (fit1 (by decide) (fit1 (by decide) (fit1 (by decide) .nil)))))⟩
    · match ys, h with
      | [_, _, _], _ => exact ⟨_, ["name", "extra", "bound", "bound", "free"], _, rfl, by decide, fit1 (by decide) (.cons (fun _ => ⟨xs, rfl⟩) (fit1 (by decide) (fit1 (by decide) (fit1 (by decide) .nil))))⟩
/-- the written table at fA -/
def Flds (K : PySem.W.Frag) (w : World) (fA : Addr) : Prop := ∀ wd fs, (wd, fs) ∈ table → ∃ p, KDct K w fA wd (.ref p) ∧ ∀ H, SqT K H p (fs.map V.str)
end K6
namespace K6
open PySem PySem.Spec PyProof.Rows L2 GR
/-- what one field gives -/
def pick1 (wanted : List Str) (f : Str) (d : PyData) : List PyData := if f = "extra" then items d else if f ∈ wanted then [d] else []
theorem pick_take (W : List Str) : ∀ {fs : List Str} {ds : List PyData} (i : Nat) {f : Str} {d : PyData}, fs[i]? = some f → ds[i]? = some d → pick W (fs.take (i + 1)) (ds.take (i + 1)) = pick W (fs.take i) (ds.take i) ++ pick1 W f d
  | f0 :: fs, d0 :: ds, 0, f, d, hf, hd => by
    cases hf
    cases hd
    simp only [List.take_succ_cons, List.take_zero, pick, pick1, List.append_nil, List.nil_append]
  | f0 :: fs, d0 :: ds, i + 1, f, d, hf, hd => by
    rw [List.getElem?_cons_succ] at hf hd
    have := pick_take W i hf hd
    simp only [List.take_succ_cons, pick]
    rw [this, List.append_assoc]
  | [], _, _, _, _, hf, _ => by simp at hf
  | _ :: _, [], _, _, _, _, hd => by simp at hd
theorem pick_len (W : List Str) : ∀ {fs : List Str} {ds : List PyData} (i : Nat), (pick W (fs.take i) (ds.take i)).length ≤ (pick W fs ds).length
  | f0 :: fs, d0 :: ds, 0 => by simp only [List.take_zero, pick]; exact Nat.zero_le _
  | f0 :: fs, d0 :: ds, i + 1 => by
    have := pick_len W (fs := fs) (ds := ds) i
    simp only [List.take_succ_cons, pick, List.length_append]
    omega
  | [], ds, i => by simp only [List.take_nil, pick]; exact Nat.zero_le _
  | f0 :: fs, [], i => by
    simp only [List.take_nil]
    cases fs.take i <;> cases i <;> simp [pick]
theorem flatDs_at : ∀ {ds : List PyData} {i : Nat} {d : PyData}, flatDs ds = true → ds[i]? = some d → flatD d = true
  | d0 :: ds, 0, d, h, e => by
    cases e
    rw [flatDs, Bool.and_eq_true] at h
    exact h.1
  | d0 :: ds, i + 1, d, h, e => by
    rw [flatDs, Bool.and_eq_true] at h
    rw [List.getElem?_cons_succ] at e
    exact flatDs_at h.2 e
  | [], _, _, _, e => by simp at e
theorem flatDs_append : ∀ {xs ys : List PyData}, flatDs xs = true → flatDs ys = true → flatDs (xs ++ ys) = true
  | [], _, _, h => h
  | x :: xs, ys, h, g => by
    rw [flatDs, Bool.and_eq_true] at h
    rw [List.cons_append, flatDs, h.1, flatDs_append h.2 g]
    rfl
theorem flat_pick1 {W : List Str} {f : Str} {d : PyData} (h : flatD d = true) : flatDs (pick1 W f d) = true := by
  unfold pick1
  split
  · cases d <;> simp only [items, flatDs]
    rw [flatD] at h
    exact h
  · split
    · rw [flatDs, h, flatDs]
      rfl
    · rw [flatDs]
theorem flat_pick {W : List Str} : ∀ {fs : List Str} {ds : List PyData}, flatDs ds = true → flatDs (pick W fs ds) = true
  | f :: fs, d :: ds, h => by
    rw [flatDs, Bool.and_eq_true] at h
    exact flatDs_append (flat_pick1 (W := W) (f := f) h.1) (flat_pick h.2)
  | [], _, _ => by simp only [pick, flatDs]
  | _ :: _, [], _ => by simp only [pick, flatDs]
theorem flatDs_take {ds : List PyData} (i : Nat) (h : flatDs ds = true) : flatDs (ds.take i) = true := by
  induction ds generalizing i with
  | nil => simp only [List.take_nil, flatDs]
  | cons d ds ih =>
    rw [flatDs, Bool.and_eq_true] at h
    cases i with
    | zero => simp only [List.take_zero, flatDs]
    | succ i =>
      rw [List.take_succ_cons, flatDs, h.1, ih i h.2]
      rfl
theorem Fits.len {fs : List Str} {ds : List PyData} (h : Fits fs ds) : fs.length = ds.length := by
  induction h with
  | nil => rfl
  | cons _ _ ih => rw [List.length_cons, List.length_cons, ih]
theorem Fits.at' {fs : List Str} {ds : List PyData} (h : Fits fs ds) : ∀ {i : Nat} {d : PyData}, fs[i]? = some ("extra" : Str) → ds[i]? = some d → ∃ xs, d = .tuple xs := by
  induction h with
  | nil =>
    intro i d e
    simp at e
  | cons h1 h2 ih =>
    intro i d e1 e2
    cases i with
    | zero =>
      simp only [List.getElem?_cons_zero, Option.some.injEq] at e1 e2
      obtain ⟨xs, rfl⟩ := h1 e1
      exact ⟨xs, e2.symm⟩
    | succ i =>
      rw [List.getElem?_cons_succ] at e1 e2
      exact ih e1 e2
theorem dpAll_at {K : PySem.W.Frag} {H : Hp} : ∀ {vs : List V} {ds : List PyData} {i : Nat} {v : V}, DpAll K H vs ds → vs[i]? = some v → ∃ d, ds[i]? = some d ∧ Dp K H v d
  | _, _, 0, v, .cons h _, e => by
    cases e
    exact ⟨_, rfl, h⟩
  | _, _, i + 1, v, .cons _ h, e => by
    rw [List.getElem?_cons_succ] at e ⊢
    exact dpAll_at h e
  | _, _, _, _, .nil, e => by simp at e
end K6

namespace K6
open PySem PySem.Spec PyProof.Rows L2 GR WX RZ
section
variable {P : Program} {w : World} {K : PySem.W.Frag} {mg : Str → Option Value} {base : Heap}
abbrev s_contained_of : Stmt := topS 6
theorem sc_contained_of : FnScope ["expression", "wanted", "found", "kind", "part"] ["expression", "wanted"] (defScope s_contained_of) := ⟨rfl, rfl, rfl, by decide +kernel, rfl, by decide +kernel, by decide +kernel⟩
def sp_contained_of (K : PySem.W.Frag) : Sp := fun vs H Q _ => ∃ (a wA : Addr) (wd : Str) (fs wanted : List Str) (rest : List PyData), vs = [.ref a, .ref wA] ∧ Dp K H (.ref a) (.tuple (.str wd :: rest)) ∧ (wd, fs) ∈ table ∧ Fits fs rest ∧ flatDs rest = true ∧ (pick wanted fs rest).length ≤ 1000 ∧ SqT K H wA (wanted.map V.str) ∧
  ∀ H' p us, Same H H' → H p = none → H' p = some (.lst us) → DpAll K H' us (pick wanted fs rest) → Q (.ref p) H'
theorem wanted_in (f : Str) (W : List Str) : inV (.str f) (W.map V.str) = decide (f ∈ W) := by
  unfold inV
  rw [List.any_map, Bool.eq_iff_iff, List.any_eq_true, decide_eq_true_eq]
  constructor
  · rintro ⟨z, hz, e⟩
    have : eqV (.str z) (.str f) = true := e
    have e2 : z = f := by
      simpa [eqV] using this
    exact e2 ▸ hz
  · intro h
    exact ⟨f, h, by show eqV (.str f) (.str f) = true; simp [eqV]⟩
theorem flat_strs (W : List Str) : (W.map V.str).all flatV = true := by
  rw [List.all_map, List.all_eq_true]
  intro z _
  rfl
theorem ok_contained_of {f fA : Addr} {fd : FuncData} {k : Nat} (F : Fun K "contained_of" "contained_of" s_contained_of f fd) (mFIELDS : mg "FIELDS" = some (.ref fA)) (T : Flds K w fA) (mzip : mg "zip" = none) :
    FnOk P w K mg base CX0 (k + 1) f fd ["expression", "wanted"] (sp_contained_of K) := by
  have nd := sc_contained_of.nd
  refine F.ok sc_contained_of (fun vs H Q E h => ?_) (fun cdv A outer s H vs Q E hr h => ?_)
  · obtain ⟨a, wA, wd, fs, wanted, rest, rfl, _⟩ := h
    rfl
  obtain ⟨a, wA, wd, fs, wanted, rest, rfl, hd, ht, hfit, hflat, hlen, hW, q⟩ := h
  refine ⟨_, (pss_cons (ps_set (i := 2) nd rfl (.inl rfl) (pe_lst pa_nil))
      (pss_cons (ps_for PassesOwn.never rfl (pi_zipA (by rfl) mzip (pa_cons (pe_ix ix_kdict (pe_glob rfl mFIELDS (v := .ref fA) rfl) (pe_ix ix_tup (pv 0) pe_int (fun _ _ => rfl)) (fun _ _ => rfl)) (pa_cons (pe_slice sl_tup (pv 0) (po_some pe_int) po_none) pa_nil))) (pg_tup rfl (pgs_cons (pg_name (i := 3) nd rfl (Or.inl rfl)) (pgs_cons (pg_name (i := 4) nd rfl (Or.inl rfl)) pgs_nil)))
      (pss_one (ps_if (pt_cmpR op_eq (pv 3) pe_str (nomark _))
        (pss_one (ps_expr (pe_bm PySem.F.plainAttrs_list PySem.F.slot_list_extend PySem.F.type_list_extend mt_extendT (pv 2) (pa_cons (pv 4) pa_nil))))
        (pss_one (ps_if (pt_cmpR op_in_seq (pv 3) (pv 1) (by rfl))
          (pss_one (ps_expr (pe_bm PySem.F.plainAttrs_list PySem.F.slot_list_append PySem.F.type_list_append mt_append (pv 2) (pa_cons (pv 4) pa_nil))))
          pss_nil)))))
      (pss_one (ps_ret (pv 2))))), ?_⟩
  cases hd with
  | tup hS hA =>
  cases hA with
  | cons hw hA =>
  cases hw
  rename_i vs0
  obtain ⟨fp, hK, hF⟩ := T wd fs ht
  have hl0 := dpAll_len hA
  refine ⟨Nat.zero_le _, fun fo nfo => ?_⟩
  have sf := same_upd (o := .lst []) nfo
  refine ⟨.ref a, rfl, a, _, 0, .str wd, rfl, rfl, (KeepT.of sf).seqt hS, at0, fA, wd, .ref fp, rfl, rfl, hK, .ref a, rfl, 1, rfl, a, _, rfl, (KeepT.of sf).seqt hS, ?_, fun c nc => ?_⟩
  · rw [List.length_cons]
    rintro ⟨e, _⟩
    have : HT.sIx (vs0.length + 1) 0 (some 1) = min 1 (vs0.length + 1) := HT.sIx_nat _ _ 1
    rw [this] at e
    omega
  have hcut : cutV (.str wd :: vs0) (some 1) none = vs0 := by
    unfold cutV
    rw [HT.sIx_none, show HT.sIx (V.str wd :: vs0).length 0 (some 1) = min 1 (V.str wd :: vs0).length from HT.sIx_nat _ _ 1, List.length_cons, show min 1 (vs0.length + 1) = 1 by omega, List.drop_succ_cons, List.drop_zero, show vs0.length + 1 - 1 = vs0.length by omega, List.take_length]
  rw [hcut]
  have sc := same_upd (o := .tup vs0) nc
  have hc1 : upd (upd H fo (.lst [])) c (.tup vs0) c = some (.tup vs0) := upd_same
  have hf1 := sc _ _ (show upd H fo (.lst []) fo = _ from upd_same)
  have s2 := sf.trans sc
  revert hc1 hf1 s2
  generalize upd (upd H fo (.lst [])) c (.tup vs0) = H1
  intro hc1 hf1 s2
  have hl : (fs.map V.str).length = vs0.length := by rw [List.length_map, hfit.len, hl0]
  refine ⟨fp, c, fs.map V.str, vs0, rfl, .inr ⟨hF H1, .inl (.inl hc1), ?_⟩⟩
  refine for_zipT hl (fun i σ H' => ∃ (y3 y4 : Option V) (us : List V), σ = [some (.ref a), some (.ref wA), some (.ref fo), y3, y4] ∧ H' fo = some (.lst us) ∧ DpAll K H' us (pick wanted (fs.take i) (rest.take i)) ∧ (∀ b o, b ≠ fo → H1 b = some o → H' b = some o)) ?_ ?_ ?_ ?_
  · refine ⟨none, none, [], rfl, hf1, ?_, fun b o _ e => e⟩
    simp only [List.take_zero, pick]
    exact .nil
  · rintro i σ H' ⟨y3, y4, us, rfl, hu, hdp, kk⟩
    exact ⟨hF H', .inl (.inl (kk _ _ (ne_of hc1 hf1 (fun z => by cases z)) hc1))⟩
  · rintro i x y t σ H' hx hy ⟨y3, y4, us, rfl, hu, hdp, kk⟩ nt
    rw [List.getElem?_map] at hx
    obtain ⟨fi, hfi, rfl⟩ : ∃ fi, fs[i]? = some fi ∧ x = .str fi := by
      cases e : fs[i]? with
      | none =>
        rw [e] at hx
        cases hx
      | some fi =>
        rw [e] at hx
        cases hx
        exact ⟨fi, rfl, rfl⟩
    obtain ⟨di, hdi, hyd⟩ := dpAll_at hA hy
    have st := same_upd (o := .tup [.str fi, y]) nt
    have kt : KeepT H (upd H' t (.tup [.str fi, y])) := ⟨fun b xs e => st _ _ (kk _ _ (ne_of_none e nfo) (s2 _ _ e)), fun b o xs e => st _ _ (kk _ _ (ne_of_none e nfo) (s2 _ _ e))⟩
    have fdi := flatDs_at hflat hdi
    have hyd2 := dp_keep kt _ _ fdi hyd
    have hu2 := st _ _ hu
    have ntf : t ≠ fo := (ne_of_none hu nt).symm
    have hp : pick wanted (fs.take (i + 1)) (rest.take (i + 1)) = pick wanted (fs.take i) (rest.take i) ++ pick1 wanted fi di := pick_take wanted i hfi hdi
    have hl2 := pick_len wanted (fs := fs) (ds := rest) (i + 1)
    have hlu := dpAll_len hdp
    have fpk : flatDs (pick wanted (fs.take i) (rest.take i)) = true := flat_pick (flatDs_take i hflat)
    rw [hp, List.length_append] at hl2
    -- what is put behind us
    have turn : ∀ zs' : List V, DpAll K (upd H' t (.tup [.str fi, y])) zs' (pick1 wanted fi di) → ∃ (z3 z4 : Option V) (us' : List V), [some (.ref a), some (.ref wA), some (.ref fo), some (.str fi), some y] = [some (.ref a), some (.ref wA), some (.ref fo), z3, z4] ∧
        upd (upd H' t (.tup [.str fi, y])) fo (.lst (us ++ zs')) fo = some (.lst us') ∧ DpAll K (upd (upd H' t (.tup [.str fi, y])) fo (.lst (us ++ zs'))) us' (pick wanted (fs.take (i + 1)) (rest.take (i + 1))) ∧ (∀ b o, b ≠ fo → H1 b = some o → upd (upd H' t (.tup [.str fi, y])) fo (.lst (us ++ zs')) b = some o) := by
      intro zs' hz
      have k2 : KeepT (upd H' t (.tup [.str fi, y])) (upd (upd H' t (.tup [.str fi, y])) fo (.lst (us ++ zs'))) := KeepT.lst hu2
      refine ⟨_, _, us ++ zs', rfl, upd_same, ?_, fun b o hb e => ?_⟩
      · rw [hp]
        exact dpAll_append (dp_keepAll ((KeepT.of st).trans k2) _ _ fpk hdp) (dp_keepAll k2 _ _ (flat_pick1 fdi) hz)
      · rw [upd_ne hb]
        exact st _ _ (kk b o hb e)
    refine ⟨t, [.str fi, y], rfl, .inl (.inl upd_same), rfl, _, _, rfl, _, _, rfl, rfl, ?_⟩
    refine ⟨.str fi, rfl, rfl, _, rfl, ite2 (fun e1 => ?_) (fun e1 => ?_)⟩
    · have e1 : fi = "extra" := by simpa using e1
      subst e1
      obtain ⟨xs, rfl⟩ := hfit.at' hfi hdi
      cases hyd2 with
      | tup hys hyA =>
      rename_i ya zs'
      have hz := dpAll_len hyA
      refine ⟨.ref fo, rfl, .inl ⟨rfl, _, .inl (.inl hu2)⟩, .ref ya, rfl, fo, ya, us, zs', rfl, rfl, hu2, hys, ?_, turn zs' ?_⟩
      · rw [hlu, hz]
        unfold pick1 at hl2
        rw [if_pos rfl, items] at hl2
        exact small_le (by omega)
      · unfold pick1
        rw [if_pos rfl]
        exact hyA
    · have e1 : fi ≠ "extra" := fun z => e1 (by simpa using z)
      refine ⟨.str fi, rfl, .ref wA, rfl, wA, wanted.map V.str, rfl, .inr ((KeepT.trans ⟨fun b xs e => kk _ _ (ne_of_none e nfo) (s2 _ _ e), fun b o xs e => kk _ _ (ne_of_none e nfo) (s2 _ _ e)⟩ (KeepT.of st)).seqt hW), rfl, flat_strs wanted, _, rfl, ?_⟩
      rw [wanted_in]
      refine ite2 (fun e2 => ?_) (fun e2 => ?_)
      · have e2 : fi ∈ wanted := by simpa using e2
        refine ⟨.ref fo, rfl, .inl ⟨rfl, _, .inl (.inl hu2)⟩, y, rfl, fo, _, _, rfl, rfl, hu2, ?_, turn [y] ?_⟩
        · rw [hlu]
          exact small1000 (by omega)
        · unfold pick1
          rw [if_neg e1, if_pos e2]
          exact .cons hyd2 .nil
      · have e2 : fi ∉ wanted := fun z => e2 (by simpa using z)
        refine ⟨_, _, us, rfl, hu2, ?_, fun b o hb e => st _ _ (kk b o hb e)⟩
        rw [hp]
        unfold pick1
        rw [if_neg e1, if_neg e2, List.append_nil]
        exact dp_keepAll (KeepT.of st) _ _ fpk hdp
  · rintro σ H' ⟨y3, y4, us, rfl, hu, hdp, kk⟩
    have e1 : fs.take (fs.map V.str).length = fs := by rw [List.length_map, List.take_length]
    have e2 : rest.take (fs.map V.str).length = rest := by rw [List.length_map, hfit.len, List.take_length]
    rw [e1, e2] at hdp
    refine ⟨.ref fo, rfl, q H' fo us (fun b o e => kk _ _ (ne_of_none e nfo) (s2 _ _ e)) nfo hu hdp⟩
end
end K6

namespace K6
open PySem PySem.Spec PyProof.Rows L2 GR
abbrev W2 : List Str := ["free", "bound"]
def fieldsOf (w : Str) : List Str := ((table.find? fun p => decide (p.1 = w)).map (·.2)).getD []
/-- what an expression contains directly -/
def kids : PyData → List PyData
  | .tuple (.str w :: rest) => pick W2 (fieldsOf w) rest
  | _ => []
theorem fieldsOf_table : ∀ p, p ∈ table → fieldsOf p.1 = p.2 := by decide
theorem Form.kids {x : PyData} {w : Str} {fs : List Str} {rest : List PyData} (h : Form x w fs rest) : kids x = pick W2 fs rest := by
  obtain ⟨rfl, ht, _⟩ := h
  show pick W2 (fieldsOf w) rest = _
  rw [show fieldsOf w = fs from fieldsOf_table (w, fs) ht]
theorem kids_of {w : Str} {fs : List Str} {rest : List PyData} (ht : (w, fs) ∈ table) : kids (.tuple (.str w :: rest)) = pick W2 fs rest := by
  show pick W2 (fieldsOf w) rest = _
  rw [show fieldsOf w = fs from fieldsOf_table (w, fs) ht]
theorem p_no {f : Str} {d : PyData} {fs : List Str} {ds : List PyData} (h : f ≠ "extra") (h2 : f ∉ W2) : pick W2 (f :: fs) (d :: ds) = pick W2 fs ds := by
  simp only [pick, if_neg h, if_neg h2, List.nil_append]
theorem p_yes {f : Str} {d : PyData} {fs : List Str} {ds : List PyData} (h : f ≠ "extra") (h2 : f ∈ W2) : pick W2 (f :: fs) (d :: ds) = d :: pick W2 fs ds := by
  simp only [pick, if_neg h, if_pos h2, List.cons_append, List.nil_append]
theorem p_ex {xs : List PyData} {fs : List Str} {ds : List PyData} : pick W2 ("extra" :: fs) (.tuple xs :: ds) = xs ++ pick W2 fs ds := by
  simp only [pick, if_pos, items]
theorem p_nil : pick W2 [] [] = [] := rfl
/-- the parts contained, by the form -/
theorem kids_leaf {zs : List Str} {x : PyData} (h : Leaf zs x) : kids x = [] := by
  cases h with
  | int i _ _ => rw [kids_of (fs := ["value"]) (by decide), p_no (by decide) (by decide), p_nil]
  | let_ i _ _ => rw [kids_of (fs := ["position"]) (by decide), p_no (by decide) (by decide), p_nil]
  | key => rw [kids_of (fs := []) (by decide), p_nil]
  | var z _ => rw [kids_of (fs := ["name"]) (by decide), p_no (by decide) (by decide), p_nil]
theorem kids_cell {t v : Str} {x : PyData} : kids (.tuple [.str "cell", .str t, x, .str v]) = [x] := by
  rw [kids_of (fs := ["name", "free", "name"]) (by decide), p_no (by decide) (by decide), p_yes (by decide) (by decide), p_no (by decide) (by decide), p_nil]
theorem kids_if {x y z : PyData} : kids (.tuple [.str "if", x, y, z]) = [x, y, z] := by
  rw [kids_of (fs := ["free", "free", "free"]) (by decide), p_yes (by decide) (by decide), p_yes (by decide) (by decide), p_yes (by decide) (by decide), p_nil]
theorem kids_op {o : Str} {x y : PyData} (h : o ∈ opws) : kids (.tuple [.str o, x, y]) = [x, y] := by
  simp only [opws, List.mem_cons, List.not_mem_nil, or_false] at h
  rcases h with rfl | rfl | rfl | rfl | rfl | rfl
  · rw [kids_of (fs := ["free", "free"]) (by decide), p_yes (by decide) (by decide), p_yes (by decide) (by decide), p_nil]
  · rw [kids_of (fs := ["free", "free"]) (by decide), p_yes (by decide) (by decide), p_yes (by decide) (by decide), p_nil]
  · rw [kids_of (fs := ["free", "free"]) (by decide), p_yes (by decide) (by decide), p_yes (by decide) (by decide), p_nil]
  · rw [kids_of (fs := ["free", "free"]) (by decide), p_yes (by decide) (by decide), p_yes (by decide) (by decide), p_nil]
  · rw [kids_of (fs := ["free", "free"]) (by decide), p_yes (by decide) (by decide), p_yes (by decide) (by decide), p_nil]
  · rw [kids_of (fs := ["free", "bound"]) (by decide), p_yes (by decide) (by decide), p_yes (by decide) (by decide), p_nil]
theorem kids_agg {o t : Str} {xs ys : List PyData} (h : (o, ys.length) ∈ aggs) : kids (.tuple (.str o :: .str t :: .tuple xs :: ys)) = xs ++ ys := by
  simp only [aggs, List.mem_cons, List.not_mem_nil, or_false, Prod.mk.injEq] at h
  rcases h with ⟨rfl, h⟩ | ⟨rfl, h⟩ | ⟨rfl, h⟩ | ⟨rfl, h⟩
  · match ys, h with
    | [_, _], _ => rw [kids_of (fs := ["name", "extra", "bound", "bound"]) (by decide), p_no (by decide) (by decide), p_ex, p_yes (by decide) (by decide), p_yes (by decide) (by decide), p_nil]
  · match ys, h with
    | [_, _, _], _ => rw [kids_of (fs := ["name", "extra", "bound", "bound", "bound"]) (by decide), p_no (by decide) (by decide), p_ex, p_yes (by decide) (by decide), p_yes (by decide) (by decide), p_yes (by decide) (by decide), p_nil]
  · match ys, h with
    | [_, _, _, _], _ => rw [kids_of (fs := ["name", "extra", "bound", "bound", "bound", "free"]) (by decide), p_no (by decide) (by decide), p_ex, p_yes (by decide) (by decide), p_yes (by decide) (by decide), p_yes (by decide) (by decide), p_yes (by decide) (by decide), p_nil]
  · match ys, h with
    | [_, _, _], _ => rw [kids_of (fs := ["name", "extra", "bound", "bound", "free"]) (by decide), p_no (by decide) (by decide), p_ex, p_yes (by decide) (by decide), p_yes (by decide) (by decide), p_yes (by decide) (by decide), p_nil]
theorem agg_len {o : Str} {n : Nat} (h : (o, n) ∈ aggs) : n ≤ 4 := by
  simp only [aggs, List.mem_cons, List.not_mem_nil, or_false, Prod.mk.injEq] at h
  omega
theorem Ex.kids {zs : List Str} {n : Nat} {x : PyData} (h : Ex zs (n + 1) x) : (∀ y, y ∈ kids x → Ex zs n y) ∧ (kids x).length ≤ 6 := by
  cases h with
  | leaf n x h =>
    rw [kids_leaf h]
    exact ⟨fun y hy => (nomatch hy), by decide⟩
  | cell n t v x h1 h2 h3 =>
    rw [kids_cell]
    refine ⟨fun y hy => ?_, (show 1 ≤ 6 by decide)⟩
    rw [List.mem_singleton.mp hy]
    exact h3
  | op n o x y h1 h2 h3 =>
    rw [kids_op h1]
    refine ⟨fun z hz => ?_, (show 2 ≤ 6 by decide)⟩
    simp only [List.mem_cons, List.not_mem_nil, or_false] at hz
    rcases hz with rfl | rfl
    · exact h2
    · exact h3
  | iff n x y z h1 h2 h3 =>
    rw [kids_if]
    refine ⟨fun u hu => ?_, (show 3 ≤ 6 by decide)⟩
    simp only [List.mem_cons, List.not_mem_nil, or_false] at hu
    rcases hu with rfl | rfl | rfl
    · exact h1
    · exact h2
    · exact h3
  | agg n o t xs ys h1 h2 h3 h4 h5 =>
    rw [kids_agg h1]
    have := agg_len h1
    refine ⟨fun u hu => ?_, by rw [List.length_append]; omega⟩
    rcases List.mem_append.mp hu with hu | hu
    · exact h4 u hu
    · exact h5 u hu
/-! ### levels -/
/-- the level below -/
def down (l : List PyData) : List PyData := l.flatMap kids
/-- n levels, from l on -/
def lvls : Nat → List PyData → List PyData
  | 0, _ => []
  | n + 1, l => l ++ lvls n (down l)
/-- all parts, each with its own behind it -/
def flatP : Nat → PyData → List PyData
  | 0, _ => []
  | n + 1, x => x :: (kids x).flatMap (flatP n)
def bnd : Nat → Nat
  | 0 => 0
  | n + 1 => 1 + 6 * bnd n
theorem sum_le {α : Type} (f : α → Nat) (b : Nat) : ∀ l : List α, (∀ x, x ∈ l → f x ≤ b) → (l.map f).sum ≤ l.length * b
  | [], _ => by simp
  | x :: l, h => by
    have h1 := h x List.mem_cons_self
    have h2 := sum_le f b l fun y hy => h y (List.mem_cons_of_mem _ hy)
    rw [List.map_cons, List.sum_cons, List.length_cons, Nat.succ_mul]
    omega
theorem flatP_len {zs : List Str} : ∀ {n : Nat} {x : PyData}, Ex zs n x → (flatP n x).length ≤ bnd n
  | 0, _, h => by cases h
  | n + 1, x, h => by
    obtain ⟨h1, h2⟩ := h.kids
    have h3 : ((kids x).flatMap (flatP n)).length ≤ 6 * bnd n := by
      rw [List.length_flatMap]
      have := sum_le (fun y => (flatP n y).length) (bnd n) (kids x) fun y hy => flatP_len (h1 y hy)
      have h4 : (kids x).length * bnd n ≤ 6 * bnd n := Nat.mul_le_mul_right _ h2
      omega
    simp only [flatP, List.length_cons, bnd]
    omega
theorem flatMap_cons_perm {α β : Type} (f : α → β) (g : α → List β) : ∀ l : List α, (l.map f ++ l.flatMap g).Perm (l.flatMap fun x => f x :: g x)
  | [] => .nil
  | x :: l => by
    have ih := flatMap_cons_perm f g l
    simp only [List.map_cons, List.flatMap_cons, List.cons_append]
    refine .cons _ ?_
    have : (l.map f ++ (g x ++ l.flatMap g)).Perm (g x ++ (l.map f ++ l.flatMap g)) := by
      rw [← List.append_assoc, ← List.append_assoc]
      exact List.perm_append_comm.append_right _
    exact this.trans (ih.append_left _)
/-- by levels, the same parts -/
theorem lvls_perm : ∀ (n : Nat) (l : List PyData), (lvls n l).Perm (l.flatMap (flatP n))
  | 0, l => by
    have : l.flatMap (flatP 0) = [] := by
      induction l with
      | nil => rfl
      | cons x l ih => rw [List.flatMap_cons, ih]; rfl
    rw [this]
    exact .nil
  | n + 1, l => by
    have ih := lvls_perm n (down l)
    have h1 : (down l).flatMap (flatP n) = l.flatMap fun x => (kids x).flatMap (flatP n) := by
      unfold down
      rw [List.flatMap_assoc]
    rw [h1] at ih
    have h2 := flatMap_cons_perm (fun x : PyData => x) (fun x => (kids x).flatMap (flatP n)) l
    rw [List.map_id'] at h2
    exact (ih.append_left l).trans h2
end K6

namespace K6
open PySem PySem.Spec PyProof.Rows L2 GR WX
/-- any walk over a list: what a turn does, told by body with what is to hold behind it -/
theorem walk_body {K : PySem.W.Frag} {a : Addr} {xs : List V} {body : V → Hp → (Hp → Prop) → Prop} {H0 : Hp} {Qd : Hp → Prop} (Pv : Nat → Hp → Prop) (h0 : Pv 0 H0) (hl : ∀ i H, i ≤ xs.length → Pv i H → SqL K H a xs)
    (hs : ∀ i x H, xs[i]? = some x → Pv i H → body x H (Pv (i + 1))) (hd : ∀ H, Pv xs.length H → Qd H) :
    ∃ W : Nat → Nat → Hp → Prop, (∃ m, W 0 m H0) ∧ ∀ i m H, W i m H →
      ((Itl K a).stop i H ∧ Qd H) ∨ ((Itl K a).go i H ∧ ∃ Nx : Hp → Prop, (∀ H', Nx H' → ∃ m', m' < m ∧ W (i + 1) m' H') ∧ ∀ x H', (Itl K a).yld i H x H' → body x H' Nx) := by
  have w := walk_list (K := K) (a := a) (xs := xs)
  refine ⟨fun i m H => m = xs.length - i ∧ i ≤ xs.length ∧ Pv i H, ⟨xs.length, rfl, Nat.zero_le _, h0⟩, ?_⟩
  rintro i m H ⟨rfl, hi, p⟩
  have q := hl i H hi p
  by_cases hlt : i < xs.length
  · refine .inr ⟨w.goes i H hlt q, Pv (i + 1), fun H' p' => ⟨xs.length - (i + 1), by omega, rfl, hlt, p'⟩, fun x H' y => ?_⟩
    obtain ⟨rfl, hx⟩ := w.yields i H x H' hlt q y
    exact hs i x _ hx p
  · obtain rfl : i = xs.length := by omega
    exact .inl ⟨w.stops H q, hd H p⟩
theorem Ex.kept {K : PySem.W.Frag} {H H' : Hp} {zs : List Str} {n : Nat} {x : PyData} {v : V} (s : KeepT H H') (h : Ex zs n x) (d : Dp K H v x) : Dp K H' v x := dp_keep s _ _ h.flat d
theorem flat_all {zs : List Str} {n : Nat} {xs : List PyData} (h : ∀ x, x ∈ xs → Ex zs n x) : flatDs xs = true := flatDs_of fun x hx => (h x hx).flat
theorem down_take {xs : List PyData} {i : Nat} {x : PyData} (h : xs[i]? = some x) : down (xs.take (i + 1)) = down (xs.take i) ++ kids x := by
  unfold down
  rw [List.take_add_one, h, List.flatMap_append]
  simp
theorem down_len {zs : List Str} {n : Nat} {xs : List PyData} (h : ∀ x, x ∈ xs → Ex zs (n + 1) x) : (down xs).length ≤ 6 * xs.length := by
  unfold down
  rw [List.length_flatMap]
  have := sum_le (fun y => (kids y).length) 6 xs fun y hy => ((h y hy).kids).2
  omega
theorem down_take_le (xs : List PyData) (i : Nat) : (down (xs.take i)).length ≤ (down xs).length := by
  have : down xs = down (xs.take i) ++ down (xs.drop i) := by
    unfold down
    rw [← List.flatMap_append, List.take_append_drop]
  rw [this, List.length_append]
  omega
theorem take_snoc {α : Type} {l : List α} {j : Nat} {x : α} (h : l[j]? = some x) : l.take (j + 1) = l.take j ++ [x] := by
  rw [List.take_add_one, h]
  rfl
theorem down_ex {zs : List Str} {n : Nat} {xs : List PyData} (h : ∀ x, x ∈ xs → Ex zs (n + 1) x) : ∀ y, y ∈ down xs → Ex zs n y := by
  intro y hy
  obtain ⟨x, hx, hy⟩ := List.mem_flatMap.mp hy
  exact ((h x hx).kids).1 y hy
section
variable {P : Program} {w : World} {K : PySem.W.Frag} {mg : Str → Option Value} {base : Heap}
abbrev s_contained : Stmt := topS 4
theorem sc_contained : FnScope ["expression"] ["expression"] (defScope s_contained) := ⟨rfl, rfl, rfl, by decide +kernel, rfl, by decide +kernel, by decide +kernel⟩
def sp_contained (K : PySem.W.Frag) : Sp := fun vs H Q _ => ∃ (v : V) (x : PyData) (zs : List Str) (n : Nat), vs = [v] ∧ Dp K H v x ∧ Ex zs (n + 1) x ∧ ∀ H' p us, Same H H' → H p = none → H' p = some (.lst us) → DpAll K H' us (kids x) → Q (.ref p) H'
theorem ok_contained {f fc : Addr} {fd fdc : FuncData} {k : Nat} (F : Fun K "contained" "contained" s_contained f fd) (Gc : FnOk P w K mg base CX0 k fc fdc ["expression", "wanted"] (sp_contained_of K)) (gc : mg "contained_of" = some (.ref fc)) (Kc : PySem.W.keepIn K (.ref fc) = true) (bc : Binds K fdc ["expression", "wanted"] []) {aP : Addr} (mALL : mg "ALL_PARTS" = some (.ref aP)) (TA : ∀ H, SqT K H aP (W2.map V.str)) :
    FnOk P w K mg base CX0 (k + 1) f fd ["expression"] (sp_contained K) := by
  have nd := sc_contained.nd
  refine F.ok sc_contained (fun vs H Q E h => ?_) (fun cdv A outer s H vs Q E hr h => ?_)
  · obtain ⟨v, x, zs, n, rfl, _⟩ := h
    rfl
  obtain ⟨v, x, zs, n, rfl, hd, he, q⟩ := h
  refine ⟨_, (pss_one (ps_ret (pe_call Gc hr (by rfl) gc Kc bc .nil pass0 (pa_cons (pv 0) (pa_cons (pe_glob rfl mALL (v := .ref aP) rfl) pa_nil))))), ?_⟩
  obtain ⟨wd, fs, rest, hf⟩ := he.form
  have hk := hf.kids
  have hkl := he.kids.2
  have hfl := he.flat
  obtain ⟨rfl, ht, hfit⟩ := hf
  cases hd with
  | tup hS hA =>
  rename_i a vs
  refine ⟨.ref a, rfl, a, aP, wd, fs, W2, rest, rfl, .tup hS hA, ht, hfit, ?_, ?_, TA H, fun H' p us s1 np hp hu => ?_⟩
  · rw [flatD, flatDs, Bool.and_eq_true] at hfl
    exact hfl.2
  · rw [← hk]
    omega
  · rw [← hk] at hu
    exact q H' p us s1 np hp hu
abbrev s_one_deeper : Stmt := topS 9
abbrev N_one : List Str := ["expressions", "expression", "part"]
theorem sc_one_deeper : FnScope N_one ["expressions"] (defScope s_one_deeper) := ⟨rfl, rfl, rfl, by decide +kernel, rfl, by decide +kernel, by decide +kernel⟩
def sp_one_deeper (K : PySem.W.Frag) : Sp := fun vs H Q _ => ∃ (a : Addr) (us : List V) (xs : List PyData) (zs : List Str) (n : Nat), vs = [.ref a] ∧ SqL K H a us ∧ DpAll K H us xs ∧ (∀ x, x ∈ xs → Ex zs (n + 1) x) ∧ xs.length ≤ 2100000 ∧
  ∀ H' p us', Same H H' → H p = none → H' p = some (.lst us') → DpAll K H' us' (down xs) → Q (.ref p) H'
theorem ok_one_deeper {f fc : Addr} {fd fdc : FuncData} {k : Nat} (F : Fun K "one_deeper" "one_deeper" s_one_deeper f fd) (Gc : FnOk P w K mg base CX0 k fc fdc ["expression"] (sp_contained K)) (gc : mg "contained" = some (.ref fc)) (Kc : PySem.W.keepIn K (.ref fc) = true) (bc : Binds K fdc ["expression"] []) :
    FnOk P w K mg base CX0 (k + 1) f fd ["expressions"] (sp_one_deeper K) := by
  have nd := sc_one_deeper.nd
  refine F.ok sc_one_deeper (fun vs H Q E h => ?_) (fun cdv A outer s H vs Q E hr h => ?_)
  · obtain ⟨a, us, xs, zs, n, rfl, _⟩ := h
    rfl
  obtain ⟨a, us, xs, zs, n, rfl, hS, hA, hE, hlen, q⟩ := h
  refine ⟨_, (pss_one (ps_ret (pe_lc2 (own := [("expression", 1), ("part", 2)]) (vs1 := [2]) (wi1 := iList K (tCall (sp_contained K) [] E0 (tCons (tVar 1) tNil))) rfl nd (pi_list (pv 0)) (blkOk_by (N := N_one) (sc := defScope s_one_deeper) (by decide +kernel)) (by decide)
      (fun _ _ _ _ _ => (pg_name (i := 1) nd rfl (Or.inl rfl))) (fun _ _ _ _ _ => pts_nil)
      (fun _ _ _ _ _ => pi_list (pe_call Gc hr (by rfl) gc Kc bc .nil pass0 (pa_cons (pv 1) pa_nil))) (fun _ _ _ _ _ => (pg_name (i := 2) nd rfl (Or.inl rfl))) (fun _ _ _ _ _ => pts_nil)
      (fun _ _ _ _ _ => (pv 2))))), ?_⟩
  refine ⟨.ref a, rfl, a, rfl, ⟨us, hS⟩, fun D nD => ?_⟩
  have hxl := dpAll_len hA
  have hdl := down_len hE
  have full : ∀ H' us', DpAll K H' us' (down xs) → us'.length < sizeLine := fun H' us' h => by
    rw [dpAll_len h, sizeLine_eq]
    omega
  refine walk_body (xs := us) (fun i H' => ∃ acc, H' D = some (.lst acc) ∧ DpAll K H' acc (down (xs.take i)) ∧ Same H H') ?_ ?_ ?_ ?_
  · refine ⟨[], upd_same, ?_, same_upd nD⟩
    rw [List.take_zero]
    exact .nil
  · rintro i H' _ ⟨acc, hD, hdp, kk⟩
    exact kk.seq hS
  · rintro i v H' hv ⟨acc, hD, hdp, kk⟩
    obtain ⟨x, hx, hvx⟩ := dpAll_at hA hv
    have ex := hE x (List.mem_of_getElem? hx)
    refine ⟨rfl, yes_then ⟨v, rfl, v, x, zs, n, rfl, ex.kept (KeepT.of kk) hvx, ex, fun H2 p us2 s2 np hp hu => ⟨p, rfl, ⟨us2, .inl (.inl hp)⟩, ?_⟩⟩⟩
    have hD2 := s2 _ _ hD
    have npD : D ≠ p := ne_of_none hD np
    have hul := dpAll_len hu
    have fd : flatDs (down (xs.take i)) = true := flat_all (n := n) (zs := zs) (down_ex fun y hy => hE y (List.mem_of_mem_take hy))
    have fk : flatDs (kids x) = true := flat_all ex.kids.1
    have hdn := down_take hx
    have hle := down_take_le xs (i + 1)
    rw [hdn, List.length_append] at hle
    refine walk_body (xs := us2) (fun j H3 => ∃ acc', H3 D = some (.lst acc') ∧ DpAll K H3 acc' (down (xs.take i) ++ (kids x).take j) ∧ (∀ b o, b ≠ D → H2 b = some o → H3 b = some o)) ?_ ?_ ?_ ?_
    · refine ⟨acc, hD2, ?_, fun b o _ e => e⟩
      rw [List.take_zero, List.append_nil]
      exact dp_keepAll (KeepT.of s2) _ _ fd hdp
    · rintro j H3 _ ⟨acc', hD3, hdp3, k3⟩
      exact .inl (.inl (k3 _ _ npD.symm hp))
    · rintro j y H3 hy ⟨acc', hD3, hdp3, k3⟩
      obtain ⟨dj, hdj, hyd⟩ := dpAll_at hu hy
      have kt3 : KeepT H2 H3 := ⟨fun b us e => k3 _ _ (ne_of e hD2 (fun z => by cases z)) e, fun b o us e => k3 _ _ (ne_of e hD2 (fun z => by cases z)) e⟩
      have fdj := flatDs_at fk hdj
      have k4 : KeepT H3 (upd H3 D (.lst (acc' ++ [y]))) := KeepT.lst hD3
      have la := dpAll_len hdp3
      rw [List.length_append, List.length_take] at la
      have hj : j < (kids x).length := (List.getElem?_eq_some_iff.mp hdj).1
      refine ⟨rfl, yes_then ⟨y, rfl, acc', hD3, ?_, acc' ++ [y], upd_same, ?_, fun b o hb e => ?_⟩⟩
      · rw [sizeLine_eq]
        omega
      · rw [take_snoc hdj, ← List.append_assoc]
        exact dpAll_append (dp_keepAll k4 _ _ (flatDs_append fd (flatDs_take j fk)) hdp3) (.cons (dp_keep (kt3.trans k4) _ _ fdj hyd) .nil)
      · rw [upd_ne hb]
        exact k3 b o hb e
    · rintro H3 ⟨acc', hD3, hdp3, k3⟩
      rw [hul, List.take_length, ← hdn] at hdp3
      exact ⟨acc', hD3, hdp3, fun b o e => k3 b o (ne_of_none e nD) (s2 _ _ (kk _ _ e))⟩
  · rintro H' ⟨acc, hD, hdp, kk⟩
    rw [hxl, List.take_length] at hdp
    exact q H' D acc kk nD hD hdp
end
end K6

namespace K6
open PySem PySem.Spec PyProof.Rows L2 GR WX
theorem lvls_nil : ∀ n, lvls n [] = []
  | 0 => rfl
  | n + 1 => by
    show [] ++ lvls n (down []) = []
    rw [List.nil_append, show down [] = [] from rfl, lvls_nil n]
theorem lvls_len {zs : List Str} {n : Nat} {x : PyData} (h : Ex zs n x) : (lvls n [x]).length ≤ (flatP n x).length := by
  have := (lvls_perm n [x]).length_eq
  rw [List.flatMap_cons, List.flatMap_nil, List.append_nil] at this
  exact Nat.le_of_eq this
/-- how many levels there are, from l on -/
def deepN : Nat → List PyData → Nat
  | 0, _ => 0
  | n + 1, l => if l.isEmpty then 0 else 1 + deepN n (down l)
theorem deepN_nil : ∀ n, deepN n [] = 0
  | 0 => rfl
  | n + 1 => rfl
section
variable {P : Program} {w : World} {K : PySem.W.Frag} {mg : Str → Option Value} {base : Heap}
abbrev s_all_parts : Stmt := topS 10
theorem sc_all_parts : FnScope ["expression", "found", "level"] ["expression"] (defScope s_all_parts) := ⟨rfl, rfl, rfl, by decide +kernel, rfl, by decide +kernel, by decide +kernel⟩
def sp_all_parts (K : PySem.W.Frag) : Sp := fun vs H Q _ => ∃ (v : V) (x : PyData) (zs : List Str) (n : Nat), vs = [v] ∧ Dp K H v x ∧ Ex zs n x ∧ (flatP n x).length ≤ 2100000 ∧ ∀ H' p us, Same H H' → H p = none → H' p = some (.lst us) → DpAll K H' us (lvls n [x]) → Q (.ref p) H'
theorem ok_all_parts {f fc : Addr} {fd fdc : FuncData} {k : Nat} (F : Fun K "all_parts" "all_parts" s_all_parts f fd) (Gc : FnOk P w K mg base CX0 k fc fdc ["expressions"] (sp_one_deeper K)) (gc : mg "one_deeper" = some (.ref fc)) (Kc : PySem.W.keepIn K (.ref fc) = true) (bc : Binds K fdc ["expressions"] []) :
    FnOk P w K mg base CX0 (k + 1) f fd ["expression"] (sp_all_parts K) := by
  have nd := sc_all_parts.nd
  refine F.ok sc_all_parts (fun vs H Q E h => ?_) (fun cdv A outer s H vs Q E hr h => ?_)
  · obtain ⟨v, x, zs, n, rfl, _⟩ := h
    rfl
  obtain ⟨v, x, zs, n, rfl, hd, he, hb, q⟩ := h
  have hll := lvls_len he
  refine ⟨_, (pss_cons (ps_set (i := 1) nd rfl (.inl rfl) (pe_lst pa_nil))
      (pss_cons (ps_set (i := 2) nd rfl (.inl rfl) (pe_lst (pa_cons (pv 0) pa_nil)))
      (pss_cons (ps_while PassesOwn.never (pt_truth (pv 2) (fun _ => rfl))
      (pss_cons (ps_expr (pe_bm PySem.F.plainAttrs_list PySem.F.slot_list_extend PySem.F.type_list_extend mt_extend (pv 1) (pa_cons (pv 2) pa_nil)))
        (pss_one (ps_set (i := 2) nd rfl (.inl rfl) (pe_call Gc hr (by rfl) gc Kc bc .nil pass0 (pa_cons (pv 2) pa_nil))))))
      (pss_one (ps_ret (pv 1)))))), ?_⟩
  refine ⟨Nat.zero_le _, fun fo nfo => ?_⟩
  have sf := same_upd (o := .lst []) nfo
  have hf0 : upd H fo (.lst []) fo = some (.lst []) := upd_same
  refine ⟨v, rfl, small_le (show 1 ≤ 1000 by decide), fun lv nlv => ?_⟩
  have sl := same_upd (o := .lst [v]) nlv
  have hfl := ne_of_none hf0 nlv
  refine ⟨fun m σ H' => ∃ (lv : Addr) (acc us : List V) (done xs : List PyData), σ = [some v, some (.ref fo), some (.ref lv)] ∧ H' fo = some (.lst acc) ∧ H' lv = some (.lst us) ∧ fo ≠ lv ∧ DpAll K H' acc done ∧ DpAll K H' us xs ∧ (∀ y, y ∈ xs → Ex zs m y) ∧ (∀ y, y ∈ done → flatD y = true) ∧ done ++ lvls m xs = lvls n [x] ∧ (∀ b o, b ≠ fo → H b = some o → H' b = some o), ⟨n, ?_⟩, ?_⟩
  · refine ⟨lv, [], [v], [], [x], rfl, sl _ _ hf0, upd_same, hfl, .nil, .cons (he.kept (KeepT.of (sf.trans sl)) hd) .nil, ?_, fun y hy => (nomatch hy), rfl, fun b o _ e => sl _ _ (sf _ _ e)⟩
    intro y hy
    rw [List.mem_singleton.mp hy]
    exact he
  · rintro m σ H' ⟨lv, acc, us, done, xs, rfl, hfo, hlv, hne, hA, hX, hE, hF, hL, kk⟩
    have lA := dpAll_len hA
    have lX := dpAll_len hX
    refine ⟨.ref lv, rfl, !us.isEmpty, .inl ⟨us, .inl (.inl hlv), rfl⟩, ?_⟩
    cases us with
    | nil =>
      have hx : xs = [] := by
        cases hX
        rfl
      subst hx
      refine iteF ⟨.ref fo, rfl, q H' fo acc (fun b o e => kk b o (ne_of_none e nfo) e) nfo hfo ?_⟩
      rw [lvls_nil, List.append_nil] at hL
      rw [← hL]
      exact hA
    | cons u0 ur =>
      have hx : xs ≠ [] := by
        intro z
        rw [z] at lX
        cases lX
      obtain ⟨x0, hx0⟩ := List.exists_mem_of_ne_nil xs hx
      obtain ⟨m', rfl⟩ : ∃ m', m = m' + 1 := by
        cases m with
        | zero => cases hE x0 hx0
        | succ m' => exact ⟨m', rfl⟩
      have hl2 : done.length + xs.length ≤ 2100000 := by
        have := congrArg List.length hL
        rw [List.length_append, lvls, List.length_append] at this
        omega
      have hu := upd_same (H := H') (a := fo) (o := .lst (acc ++ u0 :: ur))
      refine iteT ⟨fun σ' H'' => ∃ (lv : Addr) (acc us : List V) (done xs : List PyData), σ' = [some v, some (.ref fo), some (.ref lv)] ∧ H'' fo = some (.lst acc) ∧ H'' lv = some (.lst us) ∧ fo ≠ lv ∧ DpAll K H'' acc done ∧ DpAll K H'' us xs ∧ (∀ y, y ∈ xs → Ex zs m' y) ∧ (∀ y, y ∈ done → flatD y = true) ∧ done ++ lvls m' xs = lvls n [x] ∧ (∀ b o, b ≠ fo → H b = some o → H'' b = some o),
        fun σ' H'' z => ⟨m', Nat.lt_succ_self m', z⟩, ?_⟩
      refine ⟨.ref fo, rfl, .inl ⟨rfl, _, .inl (.inl hfo)⟩, .ref lv, rfl, fo, lv, acc, u0 :: ur, rfl, rfl, hfo, hlv, ?_, ?_⟩
      · rw [lA, lX, sizeLine_eq]
        omega
      have k1 : KeepT H' (upd H' fo (.lst (acc ++ u0 :: ur))) := KeepT.lst hfo
      have hlv1 : upd H' fo (.lst (acc ++ u0 :: ur)) lv = some (.lst (u0 :: ur)) := by
        rw [upd_ne hne.symm]
        exact hlv
      have fX := flat_all hE
      have hA1 := dpAll_append (dp_keepAll k1 _ _ (flatDs_of hF) hA) (dp_keepAll k1 _ _ fX hX)
      have hX1 := dp_keepAll k1 _ _ fX hX
      refine ⟨.ref lv, rfl, lv, u0 :: ur, xs, zs, m', rfl, .inl (.inl hlv1), hX1, hE, by omega, fun H2 p us' s2 np hp hu' => ?_⟩
      have hfo2 := s2 _ _ hu
      refine ⟨p, acc ++ u0 :: ur, us', done ++ xs, down xs, rfl, hfo2, hp, ne_of_none hu np, ?_, hu', down_ex hE, ?_, ?_, fun b o hb e => ?_⟩
      · refine dp_keepAll (KeepT.of s2) _ _ (flatDs_append (flatDs_of hF) fX) hA1
      · intro y hy
        rcases List.mem_append.mp hy with hy | hy
        · exact hF y hy
        · exact (hE y hy).flat
      · rw [List.append_assoc]
        exact hL
      · refine s2 _ _ ?_
        rw [upd_ne hb]
        exact kk b o hb e
end
end K6

/-! Sets of texts that can be walked: what one more element does to the object, for any kind of key. -/
namespace TX
open PySem PySem.Spec PyProof.Rows L2
section
variable {P : Program} {w : World} {A : Around} {E : Value → Shared → Prop} {s : Shared} {a : Addr}
/-- the object at a is the same set with these entries, and its table is as good as before -/
structure Grown (h0 h : Heap) (a : Addr) (o : Obj) (t : SetTable) (l : List (Int × Value)) : Prop where
  same : Heap.SameBut a h0 h
  at' : ∃ es ep t', h.get? a = some { o with data := .set es ep t' } ∧ es.toList.Perm l ∧ t'.fits es.size = true ∧ (Ris t.place.toList → Ris t'.place.toList) ∧ t'.led = t.led
theorem got {h : Heap} {o : Obj} {es es' : Array (Int × Value)} {ep : Nat} {t t' : SetTable} (ho : h.get? a = some o) (hd : o.data = .set es ep t) :
    (h.update a (Obj.putSet es' t')).get? a = some { o with data := .set es' (ep + 1) t' } := store_at ho hd
/-- laid down, and laid anew where the table is too full -/
theorem tail {g : Bool → Sem Unit} (hg : ∀ (b : Bool) (s₁ : Shared) (Q' : Unit → Shared → Prop), Q' () s₁ → wpAny (model P w) A (g b) Q' E s₁) {o : Obj} {es es1 : Array (Int × Value)} {ep : Nat} {t t0 t2 : SetTable} (ho : s.heap.get? a = some o) (hd : o.data = .set es ep t)
    {l : List (Int × Value)} (pm : es1.toList.Perm l) (small : es1.size < scanBound) (fit : t2.fits es1.size = true) (ris : Ris t0.place.toList → Ris t2.place.toList) (led : t2.led = t0.led) {d : Bool} {R : Option Bool → Shared → Prop}
    (done : ∀ h', Grown s.heap h' a o t0 l → R (some true) { s with heap := h' }) :
    wpAny (model P w) A (do
        storeSet a es1 t2
        if (!d && t2.tooFull) = true then do
            g (relayAll t2 es1 (SetTable.grown es1.size)).2.2
            storeSet a (relayAll t2 es1 (SetTable.grown es1.size)).1 (relayAll t2 es1 (SetTable.grown es1.size)).2.1
            pure (some true)
          else pure (some true)) R E s := by
  have h1 := got (es' := es1) (t' := t2) ho hd
  have b1 := Heap.SameBut.update s.heap a (Obj.putSet es1 t2)
  apply wpAny_bind
  refine wpAny_storeSet_of ho hd ?_ (fits_of_scanBound small)
  by_cases full : (!d && t2.tooFull) = true
  · rw [if_pos full]
    have p2 := relayAll_perm t2 es1 (SetTable.grown es1.size)
    have small2 : (relayAll t2 es1 (SetTable.grown es1.size)).1.size < scanBound := by
      have := p2.length_eq
      rw [Array.length_toList, Array.length_toList] at this
      omega
    apply wpAny_bind
    refine hg _ _ _ ?_
    apply wpAny_bind
    refine wpAny_storeSet_of h1 rfl ?_ (fits_of_scanBound small2)
    exact wpAny_pure (done _ ⟨b1.trans (Heap.SameBut.update _ a _), _, _, _, (got (o := { o with data := .set es1 (ep + 1) t2 }) h1 rfl : _), p2.trans pm, relayAll_fits t2 es1 _, fun _ => relayAll_ris t2 es1 _, (relayAll_led t2 es1 _).trans led⟩)
  · rw [if_neg full]
    exact wpAny_pure (done _ ⟨b1, es1, _, t2, h1, pm, fit, ris, led⟩)

/-- one more element, or none where it is in -/
theorem add {K : Type} [DecidableEq K] {knd : PySem.KeyKind P w K} {o : Obj} {es : Array (Int × Value)} {ep : Nat} {t : SetTable} {k : K} {v : Value} {Q : Bool → Shared → Prop} (ho : s.heap.get? a = some o) (hd : o.data = .set es ep t) (hel : ElemsOf knd es.toList)
    (small : es.size + 1 < scanBound) (hf : t.fits es.size = true) (hk : knd.is k v = true) (hsc : v.scannable = true) (old : (∃ e ∈ es.toList, knd.is k e.2 = true) → Q false s)
    (new : (∀ e ∈ es.toList, knd.is k e.2 = false) → ∀ h', Grown s.heap h' a o t ((knd.hash k, v) :: es.toList) → Q true { s with heap := h' }) : wpAny (model P w) A (setAddHashed a v (knd.hash k)) Q E s := by
  unfold setAddHashed setAddHashedIn
  apply wpAny_holding
  apply wpAny_bind
  refine wpAny_setState_of ho hd hf ?_
  dsimp only
  rw [byScan_of hsc (by omega) hel]
  simp only [↓reduceIte]
  unfold setAddByScan
  apply wpAny_bind
  apply wpAny_bind
  apply wpAny_rule
  apply wpAny_bind
  refine wpAny_setScan_of hk ho hd hf hel ?_
  cases hfi : List.findIdx? (fun e => knd.is k e.2) es.toList with
  | some j =>
    dsimp only
    obtain ⟨hj, pj, _⟩ := List.findIdx?_eq_some_iff_getElem.mp hfi
    exact wpAny_pure (wpAny_pure (old ⟨_, List.getElem_mem hj, pj⟩))
  | none =>
    dsimp only
    have out : ∀ e ∈ es.toList, knd.is k e.2 = false := fun e he => by
      have := List.findIdx?_eq_none_iff.mp hfi e he
      simpa using this
    have pm : (layNew t es (knd.hash k) v).1.toList.Perm ((knd.hash k, v) :: es.toList) := by
      have := layNew_perm t es (knd.hash k) v
      rw [Array.toList_push] at this
      exact this.trans (List.perm_append_singleton _ _)
    have small1 : (layNew t es (knd.hash k) v).1.size < scanBound := by
      have := pm.length_eq
      rw [Array.length_toList, List.length_cons, Array.length_toList] at this
      omega
    have fit := layNew_fits t es (knd.hash k) v
    have ris := layNew_ris t es (knd.hash k) v
    have led := layNew_led t es (knd.hash k) v
    have wg : ∀ (b : Bool) {s₁ : Shared} {Q' : Unit → Shared → Prop}, Q' () s₁ → wpAny (model P w) A (match b with | true => rule "set.scan.the-table-gave-way" | false => pure ()) Q' E s₁ := fun b s₁ Q' q => by
      cases b
      · exact wpAny_pure q
      · exact wpAny_rule q
    generalize layNew t es (knd.hash k) v = Z at pm small1 fit ris led ⊢
    obtain ⟨es1, t1, dummy, gave⟩ := Z
    dsimp only at pm small1 fit ris led ⊢
    apply wpAny_bind
    refine wg _ ?_
    have gave' : ∀ (b : Bool) (s₁ : Shared) (Q' : Unit → Shared → Prop), Q' () s₁ → wpAny (model P w) A (match b with | true => rule "set.scan.the-table-gave-way" | false => pure ()) Q' E s₁ := fun b s₁ Q' q => wg b q
    by_cases pl : t1.plain = true
    · rw [if_pos pl]
      apply wpAny_bind
      rw [hashByValue_scannable 8 hsc]
      apply wpAny_pure
      cases plainKind v with
      | true =>
        simp only [if_true]
        refine tail gave' ho hd pm small1 fit ris led ?_
        intro h' G
        exact wpAny_pure (new out h' G)
      | false =>
        simp only [Bool.false_eq_true, if_false]
        refine tail gave' ho hd pm small1 (SetTable.fits_plain_off fit) ris led ?_
        intro h' G
        exact wpAny_pure (new out h' G)
    · rw [if_neg pl]
      apply wpAny_bind
      apply wpAny_pure
      simp only [↓reduceIte]
      refine tail gave' ho hd pm small1 fit ris led ?_
      intro h' G
      exact wpAny_pure (new out h' G)
end
end TX

/-! Sets of texts: new, one more, sorted. -/
namespace TX
open PySem PySem.Spec PyProof.Rows L2
/-- these entries are the texts l -/
structure Els (w : World) (es : List (Int × Value)) (l : List Str) : Prop where
  each : ∀ e ∈ es, ∃ x u, e.2 = Value.str x u ∧ e.1 = hashStr w x
  perm : (es.map fun e => PyProof.Rows.strOf e.2).Perm l
/-- the set of the texts l at a; it can be walked -/
def SetS (w : World) (h : Heap) (a : Addr) (l : List Str) : Prop :=
  ∃ o es ep t, h.get? a = some o ∧ o.ExactSet ∧ o.data = .set es ep t ∧ Els w es.toList l ∧ l.Nodup ∧ es.size < scanBound ∧ t.fits es.size = true ∧ Ris t.place.toList ∧ (w.params.followText "set-order" = true ∨ t.led = true)
theorem SetS.keep {w : World} {h h' : Heap} {a : Addr} {l : List Str} (R : SetS w h a l) (k : ∀ o, h.get? a = some o → h'.get? a = some o) : SetS w h' a l := by
  obtain ⟨o, es, ep, t, ho, r⟩ := R
  exact ⟨o, es, ep, t, k o ho, r⟩
theorem isStr {P : Program} {w : World} (x : Str) (u : Tok) : (PySem.strKind P w).is x (.str x u) = true := by
  show Value.isStrOf x (.str x u) = true
  simp [Value.isStrOf]
theorem Els.kind {P : Program} {w : World} {es : List (Int × Value)} {l : List Str} (G : Els w es l) : ElemsOf (PySem.strKind P w) es := by
  intro e he
  obtain ⟨x, u, e2, e1⟩ := G.each e he
  exact ⟨⟨x, by rw [e2]; exact isStr x u, e1⟩, by rw [e2]; rfl⟩
theorem Els.mem {P : Program} {w : World} {es : List (Int × Value)} {l : List Str} (G : Els w es l) (x : Str) : (∃ e ∈ es, (PySem.strKind P w).is x e.2 = true) ↔ x ∈ l := by
  rw [← G.perm.mem_iff, List.mem_map]
  constructor
  · rintro ⟨e, he, q⟩
    obtain ⟨y, u, e2, _⟩ := G.each e he
    refine ⟨e, he, ?_⟩
    rw [e2] at q ⊢
    exact (PySem.strKind P w).inj (.str y u) y x (isStr y u) q
  · rintro ⟨e, he, q⟩
    obtain ⟨y, u, e2, _⟩ := G.each e he
    refine ⟨e, he, ?_⟩
    rw [e2] at q ⊢
    rw [← q]
    exact isStr y u
theorem Els.more {P : Program} {w : World} {es es' : List (Int × Value)} {l : List Str} {x : Str} {u : Tok} (G : Els w es l) (p : es'.Perm (((PySem.strKind P w).hash x, Value.str x u) :: es)) : Els w es' (x :: l) := by
  constructor
  · intro e he
    rcases List.mem_cons.mp (p.mem_iff.mp he) with rfl | he
    · exact ⟨x, u, rfl, rfl⟩
    · exact G.each e he
  · exact (p.map _).trans (G.perm.cons x)
/-- x put in -/
def put (x : Str) (l : List Str) : List Str := if x ∈ l then l else x :: l
theorem mem_put {x y : Str} {l : List Str} : y ∈ put x l ↔ y = x ∨ y ∈ l := by
  unfold put
  by_cases h : x ∈ l
  · rw [if_pos h]
    exact ⟨.inr, fun z => z.elim (fun e => e ▸ h) id⟩
  · rw [if_neg h, List.mem_cons]
theorem put_nodup {x : Str} {l : List Str} (h : l.Nodup) : (put x l).Nodup := by
  unfold put
  by_cases q : x ∈ l
  · rw [if_pos q]
    exact h
  · rw [if_neg q]
    exact List.nodup_cons.mpr ⟨q, h⟩
theorem put_length {x : Str} {l : List Str} : (put x l).length ≤ l.length + 1 := by
  unfold put
  by_cases q : x ∈ l
  · rw [if_pos q]
    omega
  · rw [if_neg q, List.length_cons]
    exact Nat.le_refl _
section
variable {P : Program} {w : World} {A : Around} {E : Value → Shared → Prop} {s : Shared} {a : Addr} {l : List Str}
theorem SetS.typeIs (R : SetS w s.heap a l) : s.TypeIs (.ref a) "set" := by
  obtain ⟨o, es, ep, t, ho, hx, _⟩ := R
  exact ⟨o, ho, hx.1⟩
theorem call_add {x : Str} {u : Tok} {Q : Value → Shared → Prop} (R : SetS w s.heap a l) (small : l.length + 1 < scanBound) (hQ : ∀ h', Heap.SameBut a s.heap h' → SetS w h' a (put x l) → Q .none { s with heap := h', toks := s.toks + 1 }) :
    wpAny (model P w) A (call (.builtin "set.add") [.ref a, .str x u]) Q E s := by
  refine wpAny_call_entry F.slot_set_add R.typeIs F.entry_set_add ?_ (F.args_set_add_2 _ _)
  obtain ⟨o, es, ep, t, ho, hx, hd, G, nd, hb, hf, hr, hl⟩ := R
  unfold Builtin.«set.add» Builtin.Frozenset.oneOther
  simp only [List.isEmpty_nil, bind_assoc]
  unfold Builtin.Frozenset.addrOf setAdd
  apply wpAny_bind
  apply wpAny_pure
  try dsimp only
  apply wpAny_bind
  apply wpAny_pure
  try dsimp only
  apply wpAny_bind
  apply wpAny_holding
  apply wpAny_bind
  refine (PySem.strKind P w).pyHash (isStr x u) ?_
  have sz : es.size = l.length := by
    have := G.perm.length_eq
    rw [List.length_map, Array.length_toList] at this
    exact this
  refine add (s := { s with toks := s.toks + 1 }) (knd := PySem.strKind P w) (k := x) (v := .str x u) ho hd G.kind (by omega) hf (isStr x u) rfl ?_ ?_
  · intro hin
    show wpAny _ _ (ret Value.none) _ _ _
    refine wpAny_pure ⟨_, rfl, hQ s.heap (Heap.SameBut.refl a s.heap) ?_⟩
    unfold put
    rw [if_pos ((G.mem x).1 hin)]
    exact ⟨o, es, ep, t, ho, hx, hd, G, nd, hb, hf, hr, hl⟩
  · intro out h' N
    show wpAny _ _ (ret Value.none) _ _ _
    refine wpAny_pure ⟨_, rfl, hQ h' N.same ?_⟩
    have hn : x ∉ l := fun z => by
      obtain ⟨e, he, q⟩ := (G.mem (P := P) x).2 z
      rw [out e he] at q
      cases q
    unfold put
    rw [if_neg hn]
    obtain ⟨es1, ep1, t1, h1, p1, f1, r1, l1⟩ := N.at'
    have sz1 : es1.size = es.size + 1 := by
      have := p1.length_eq
      rw [Array.length_toList, List.length_cons, Array.length_toList] at this
      exact this
    exact ⟨_, es1, ep1, t1, h1, hx, rfl, G.more (P := P) p1, List.nodup_cons.mpr ⟨hn, nd⟩, by omega, f1, r1 hr, hl.imp id fun z => l1.trans z⟩
theorem fresh {h : Heap} (w : World) : SetS w (h.push { cls := .type "set", dict := none, data := .set #[] 0 (.fresh 0 0 (!w.params.followText "set-order")) }) h.objs.size [] := by
  refine ⟨_, #[], 0, _, Heap.get?_push_size _ rfl, ⟨rfl, rfl, rfl⟩, rfl, ⟨fun e he => by simp at he, .nil⟩, .nil, by decide, by rfl, .nil, ?_⟩
  show _ ∨ (!w.params.followText "set-order") = true
  cases w.params.followText "set-order"
  · exact .inr rfl
  · exact .inl rfl
/-- sorted(it) -/
theorem call_sorted {Q : Value → Shared → Prop} (R : SetS w s.heap a l) (hh : A.handled = none) (h64 : l.length < 64)
    (hQ : ∀ s' p (out : Array Value) (c : Nat) (ys : List Str), (∀ b o, s.heap.get? b = some o → s'.heap.get? b = some o) → s'.gens = s.gens → s'.os = s.os → s.heap.objs.size ≤ p → s'.heap.get? p = some (seqObj "list" out c) → StrsAre out.toList ys → ys.Perm l → sortedS ys = true → Q (.ref p) s') :
    wpAny (model P w) A (call (.builtin "sorted") [.ref a]) Q E s := by
  obtain ⟨o, es, ep, t, ho, hx, hd, G, nd, hb, hf, hr, hl⟩ := R
  refine Calls.call_function_entry kind_sorted plain_sorted entry_sorted (args_sorted1 _) ?_
  unfold Builtin.«sorted»
  apply wpAny_bind (m := checkCount "sorted" 1 1 _)
  apply wpAny_pure
  apply wpAny_bind
  refine collect_set (A := A.in1) hh ⟨o, ho, hx.1, hd⟩ hf hb hr hl fun s1 vs k1 hz g1 o1 pm => ?_
  have hS : StrsAre vs (vs.map PyProof.Rows.strOf) := strsAre_map vs fun v hv => by
    obtain ⟨e, he, rfl⟩ := List.mem_map.mp (pm.mem_iff.mp hv)
    obtain ⟨x, u, e2, _⟩ := G.each e he
    exact ⟨x, u, e2⟩
  have pl : (vs.map PyProof.Rows.strOf).Perm l := by
    have q := pm.map PyProof.Rows.strOf
    rw [List.map_map] at q
    exact q.trans G.perm
  have hv : vs.length = l.length := by
    have := pl.length_eq
    rw [List.length_map] at this
    exact this
  apply wpAny_bind
  refine wpAny_newList ?_ (by rw [hv, sizeLine_eq]; omega)
  have hL : (s1.heap.push (seqObj "list" vs.toArray 0)).get? s1.heap.objs.size = some (seqObj "list" vs.toArray 0) := Heap.get?_push_size _ rfl
  apply wpAny_bind
  apply wpAny_holding
  refine wpAny_call_entry slot_list_sort ⟨_, hL, rfl⟩ entry_list_sort (list_sort_treeK strKind_oneLt hL hS.keysOf (fun v₁ v₂ rest e => keyKind_strs (by rw [← e]; exact hS)) (by rw [hv]; exact h64) fun st' hp hs => ⟨_, rfl, ?_⟩) (args_list_sort _)
  obtain ⟨ys, y1, y2, y3⟩ := sorted_out_str hS hp hs
  obtain ⟨c, hc⟩ := sortedHeap_at (vs := vs) (out := (arrOf st').map (·.2)) hL
  refine wpAny_pure ⟨_, rfl, hQ _ s1.heap.objs.size _ c ys (fun b u e => ?_) g1 o1 hz hc y1 (y2.trans pl) y3⟩
  have q := k1 b u e
  have lt := Heap.lt_size q
  show (sortedHeap (s1.heap.push (seqObj "list" vs.toArray 0)) s1.heap.objs.size vs _).get? b = some u
  rw [sortedHeap_old (Nat.ne_of_lt lt) (by rw [size_push']; exact Nat.lt_succ_of_lt lt)]
  exact Heap.get?_push_of_some _ q
end
end TX

/-! Sets of texts as things of the hand layer: a comprehension, sorted. -/
namespace TX
open PySem PySem.Spec PyProof.Rows L2
/-- the set of the texts l at a -/
def SetSO (w : World) (a : Addr) (l : List Str) : HO := .ext fun h => SetS w h a l
theorem so_new {w : World} {P : Program} {H : Hp} {h : Heap} {a : Addr} {l : List Str} (R : SetS w h a l) : ObjOk P w H h a (SetSO w a l) := by
  have ⟨o, _, _, _, ho, _⟩ := R
  exact ⟨R, ⟨o, ho⟩, fun h1 h2 p k => SetS.keep p k⟩
section
variable {X : Cx} {pins : List (Addr × Obj)} {σ : L2.St} {H : Hp} {s : Shared} {a : Addr} {l : List Str}
theorem so_get (I : Inv X pins σ H s) (ha : H a = some (SetSO X.w a l)) : SetS X.w s.heap a l := (I.hok a _ ha).1
theorem so_add {E : Value → Shared → Prop} {x : Str} {u : Tok} {Q : Value → Shared → Prop} (I : Inv X pins σ H s) (ha : H a = some (SetSO X.w a l)) (small : l.length + 1 < scanBound)
    (h : ∀ s', Inv X pins σ (upd H a (SetSO X.w a (put x l))) s' → Q .none s') : wpAny (model X.prog X.w) X.A (call (.builtin "set.add") [.ref a, .str x u]) Q E s := by
  refine call_add (so_get I ha) small fun h' sb new => ?_
  have there : ∃ o, h'.get? a = some o := by
    have ⟨o, _, _, _, ho, _⟩ := new
    exact ⟨o, ho⟩
  exact h _ (I.write (e := a) (t' := s.toks + 1) (by rw [ha]; trivial) (.inl rfl) (fun b o hb ho => (sb.2 b hb).trans ho) there (so_new new))
/-- sorted(a set of texts), fewer than 64 -/
def rSortedSS (w : World) : List V → Hp → VK → Prop := fun vs H Q => ∃ (a : Addr) (l : List Str), vs = [V.ref a] ∧ H a = some (SetSO w a l) ∧ l.length < 64 ∧ ∀ (ys : List Str) (p : Addr), ys.Perm l → sortedS ys = true → H p = none → Q (.ref p) (upd H p (.lst (ys.map V.str)))
theorem cr_sortedSS (hc : X.calm = true) : CallR X (.builtin "sorted") (rSortedSS X.w) := by
  intro pins s σ H vs us Q I r h
  obtain ⟨a, l, rfl, ha, h64, q⟩ := h
  rw [Vals.ref1 r]
  refine call_sorted (so_get I ha) (I.ok.hd hc) h64 fun s' p out c ys k g o hp hg hi hy hs => ?_
  have hlen : (ys.map V.str).length ≤ sizeLine := by
    rw [List.length_map, hy.length_eq, sizeLine_eq]
    omega
  have hn : H p = none := I.hok.fresh hp
  have J : Inv X pins σ (upd H p (.lst (ys.map V.str))) { s with heap := s'.heap, gens := s'.gens, drawn := s'.drawn, toks := s'.toks } :=
    I.call (ch := []) (Un.laid k hp hn) (I.hok.laid k hp ⟨hlen, out.toList, c, vals_of_strs hi, hg⟩) (by rw [g]; exact I.bare) (fun _ z => nomatch z)
  have e : s' = { s with heap := s'.heap, gens := s'.gens, drawn := s'.drawn, toks := s'.toks } := by
    cases s'
    cases s
    cases o
    rfl
  rw [e]
  exact ⟨.ref p, _, J, rfl, q ys p hy hs hn⟩
end
end TX

/-! {elt for target in iter if ..}, elt a text. -/
namespace TX
open PySem PySem.Spec PyProof.Rows L2 PpSet
/-- the element goes into the set at D -/
def Into (w : World) (D : Addr) (Nx : Hp → Prop) : VK := fun y H => ∃ (z : Str) (l : List Str), y = .str z ∧ H D = some (SetSO w D l) ∧ l.length + 1 < scanBound ∧ Nx (upd H D (SetSO w D (put z l)))
/-- one turn: target, tests, element -/
def Turn (w : World) (g : TG) (tt : TT) (te : TE) (vs : List Nat) (σ : L2.St) (D : Addr) (Nx : Hp → Prop) (x : V) (H : Hp) : Prop :=
  g x (wipe σ vs) H fun σ2 H2 => wipe σ2 vs = wipe σ vs ∧ tt σ2 H2 fun b H3 => if b = true then te σ2 H3 (Into w D Nx) else Nx H3
/-- the set comprehension's reading: W i m what holds before turn i, m falls -/
def tScS (w : World) (wi : TI) (g : TG) (tt : TT) (te : TE) (vs : List Nat) : TE := fun σ H Q => wi σ H fun J H1 => ∀ D, H1 D = none → ∃ W : Nat → Nat → Hp → Prop, (∃ m, W 0 m (upd H1 D (SetSO w D []))) ∧ ∀ i m H, W i m H →
  (J.stop i H ∧ Q (.ref D) H) ∨ (J.go i H ∧ ∃ Nx : Hp → Prop, (∀ H', Nx H' → ∃ m', m' < m ∧ W (i + 1) m' H') ∧ ∀ x H', J.yld i H x H' → Turn w g tt te vs σ D Nx x H')
section
variable {X : Cx}
theorem pe_scS {elt tg iter : Expr} {ifs : List Expr} {scope : Scope} {own : List (PySem.Str × Nat)} {pos : Pos} {wi : TI} {g : TG} {tt : TT} {te : TE} (hc : X.calm = true) (hN : X.N.Nodup) (hi : PI X tg iter wi) (ok : BlkOk X.N X.env.scope scope own)
    (hg : ∀ (s : Shared) (H : Hp) (C : Addr) (cl : List (PySem.Str × Addr)) (fp : List Addr), PG (X.blk s H scope (compEnvC scope cl C X.env) fp) tg g) (ht : ∀ (s : Shared) (H : Hp) (C : Addr) (cl : List (PySem.Str × Addr)) (fp : List Addr), PTs (X.blk s H scope (compEnvC scope cl C X.env) fp) ifs tt)
    (he : ∀ (s : Shared) (H : Hp) (C : Addr) (cl : List (PySem.Str × Addr)) (fp : List Addr), PE (X.blk s H scope (compEnvC scope cl C X.env) fp) elt te) (hs : ∀ x, foldedSetIterable iter X.env x = pure x := by intro _; rfl) :
    PE X (.SetComp elt [⟨tg, iter, ifs, 0⟩] scope pos) (tScS X.w wi g tt te (own.map (·.2))) := by
  refine ⟨fun pins s σ H Q I h => ?_⟩
  rw [eval_SetComp]
  have free : ∀ y ∈ scope.names, y.2 = .free → ∃ c, X.env.cells.lookup y.1 = some c := fun y hy e => (ok.free y hy e).elim (fun k => I.ok.has _ (.inl k)) (fun k => I.ok.has _ (.inr k))
  refine wpAny_comprehension_free rfl hs (closure_ok free) ok.kind (fun y hy e => by rw [ok.uniq y hy, e]) (thn (hi.run pins s σ H _ I h) fun xv s1 hx => thn hx fun itv s2 h2 => ?_)
  obtain ⟨it, fp, tn, J, H2, e, I2, T, st2, f2, q⟩ := h2
  subst e
  refine newSet_ok (newEnv_comp ?_)
  -- the new set is tracked
  obtain ⟨D, hD⟩ : ∃ D, s2.heap.objs.size = D := ⟨_, rfl⟩
  rw [hD]
  obtain ⟨W, ⟨m0, w0⟩, turn⟩ := q D (I2.hok.fresh (Nat.le_of_eq hD))
  obtain ⟨s3, hs3⟩ : ∃ s3 : Shared, ({ s2 with heap := s2.heap.push { cls := .type "set", dict := none, data := .set #[] 0 (.fresh 0 0 (!X.w.params.followText "set-order")) } } : Shared) = s3 := ⟨_, rfl⟩
  have h3 : s3.heap = s2.heap.push { cls := .type "set", dict := none, data := .set #[] 0 (.fresh 0 0 (!X.w.params.followText "set-order")) } := by rw [← hs3]
  obtain ⟨H3, hH3⟩ : ∃ H3, upd H2 D (SetSO X.w D []) = H3 := ⟨_, rfl⟩
  have I3 : Inv X pins σ H3 s3 := by
    rw [← hs3, ← hH3]
    refine I2.laid (t' := s2.toks) (fun b o e => Heap.get?_push_of_some _ e) (Nat.le_of_eq hD) ?_
    rw [← hD]
    exact so_new (fresh X.w)
  rw [hs3]
  rw [hH3] at w0
  -- what the iterator stands upon is not tracked
  have foot : ∀ b ∈ fp, FpOk X pins H3 b ∧ b < s3.heap.objs.size := fun b hb => by
    obtain ⟨o, e, _⟩ := T.obj _ _ st2 b hb
    have lt := Heap.lt_size e
    refine ⟨⟨?_, (f2 b hb).2⟩, ?_⟩
    · rw [← hH3, upd_ne (by rw [← hD]; exact Nat.ne_of_lt lt)]
      exact (f2 b hb).1
    · rw [h3, Heap.size_push]
      exact Nat.lt_succ_of_lt lt
  have st3 : tn 0 s3.heap := T.keep _ _ _ st2 fun b _ o e => by
    rw [h3]
    exact Heap.get?_push_of_some _ e
  have I4 := block_start I3 ok hN foot
  have pg := hg s3 H3 s3.heap.objs.size (cellsFrom (s3.heap.objs.size + 1) scope.names (cloFrom X.env.cells scope.names [])) fp
  have pt := ht s3 H3 s3.heap.objs.size (cellsFrom (s3.heap.objs.size + 1) scope.names (cloFrom X.env.cells scope.names [])) fp
  have pe := he s3 H3 s3.heap.objs.size (cellsFrom (s3.heap.objs.size + 1) scope.names (cloFrom X.env.cells scope.names [])) fp
  show codeAny _ _ (.compStart (.SetComp elt [⟨tg, iter, ifs, 0⟩] scope pos) 0 (.ref it) (.ref D) (compEnvC scope (cellsFrom (s3.heap.objs.size + 1) scope.names (cloFrom X.env.cells scope.names [])) s3.heap.objs.size X.env)) _ { s3 with heap := pushCells (s3.heap.push { cls := .type "dict", data := .dict #[] }) scope.names }
  have bare : ∀ b ∈ fp, H3 b = none := fun b hb => (foot b hb).1.1
  generalize hce : compEnvC scope (cellsFrom (s3.heap.objs.size + 1) scope.names (cloFrom X.env.cells scope.names [])) s3.heap.objs.size X.env = ce at I4 pg pt pe ⊢
  have cL : ce.locals = s3.heap.objs.size := by
    subst hce
    rfl
  generalize hs4 : ({ s3 with heap := pushCells (s3.heap.push { cls := .type "dict", data := .dict #[] }) scope.names } : Shared) = s4 at I4 ⊢
  have st4 : tn 0 s4.heap := T.keep _ _ _ st3 fun b _ o e => by
    rw [← hs4]
    exact pushCells_keeps _ _ _ _ (Heap.get?_push_of_some _ e)
  -- in the block as well
  have stat : ∀ {σ' : L2.St} {H' : Hp} {s' : Shared}, Inv (X.blk s3 H3 scope ce fp) [] σ' H' s' → (∀ b ∈ fp, H' b = none) → ∀ b ∈ fp, FpOk (X.blk s3 H3 scope ce fp) [] H' b := fun {σ' H' s'} I' hn b hb =>
    ⟨hn b hb, (I'.ok.exf b hb).1, I'.ok.exfs b hb, .inl hb, fun x c e => (I'.ok.exf b hb).2 x c e, fun p hp => absurd (show p ∈ ([] : List (Addr × Obj)) ++ [] from hp) (by simp)⟩
  refine (fun (loop : codeAny (model X.prog X.w) X.A (.compLoop (.SetComp elt [⟨tg, iter, ifs, 0⟩] scope pos) 0 (.ref it) (.ref D) ce) _ s4) => codeAny_compStart_set loop (T.self X.A 0 _ _ _ st4 loop)) ?_
  refine compLoopS_any (fun n s' => ∃ i H', Inv (X.blk s3 H3 scope ce fp) [] (wipe σ (own.map (·.2))) H' s' ∧ tn i s'.heap ∧ (∀ b ∈ fp, H' b = none) ∧ W i n H') ?_ m0 ⟨0, H3, I4, st4, bare, w0⟩
  rintro n s5 ⟨i, H5, I5, st5, n5, w5⟩
  rcases turn i n H5 w5 with ⟨stop, fin⟩ | ⟨go, Nx, hNx, step⟩
  · refine thnF (T.done (X.blk s3 H3 scope ce fp) rfl rfl rfl hc i [] s5 _ H5 (fun _ _ => False) I5 (stat I5 n5) st5 stop) fun r s6 ⟨hr, I6⟩ => ?_
    subst hr
    have I7 : Inv X pins σ H5 s6 := I3.call' (ch := fp) I6.os I6.base I6.hok I6.bare fun b hb => ⟨(foot b hb).1.2.2.2.1, (foot b hb).1.2.1, (foot b hb).1.2.2.2.2.1, (foot b hb).1.2.2.2.2.2⟩
    have gone : H5 s3.heap.objs.size = none := by
      have z : H5 ce.locals = none := I6.free
      rw [cL] at z
      exact z
    obtain ⟨m, hn, _⟩ := I6.loc
    have hn : s6.heap.Ns ce.locals m := hn
    rw [cL] at hn
    refine ⟨m, hn, fun h'' sb => ?_⟩
    obtain ⟨f0, f1, f2', f3, f4, f5⟩ := I3.fpOk (Nat.le_refl _) gone
    exact ⟨.ref D, H5, I7.turned (t' := s6.toks) (fun b o hb e => (sb.2 b hb).trans e) f0 f1 f3 f4 f5, rfl, fin⟩
  · refine thnF (T.item (X.blk s3 H3 scope ce fp) rfl rfl rfl hc i [] s5 _ H5 (fun _ _ => False) I5 (stat I5 n5) st5 go) fun r s6 ⟨u, hr, h6⟩ => ?_
    subst hr
    refine thnF h6 fun _ s7 ⟨x, H7, I7, r7, y7, st7, n7⟩ => ?_
    have I7' := I7.pinned (stat I7 n7) (T.obj _ _ st7)
    refine thnF (pg.run _ s7 _ H7 x u _ I7' r7 (step x H7 y7)) fun _ s8 ⟨σ8, H8, I8, hw8, q8⟩ => ?_
    refine thnF (pt.run _ s8 σ8 H8 _ I8 q8) fun b s9 ⟨H9, I9, q9⟩ => ?_
    have next : ∀ {s' : Shared} {H' : Hp}, Inv (X.blk s3 H3 scope ce fp) ([] ++ pinsAt fp s7.heap) σ8 H' s' → Nx H' → ∃ m, m < n ∧ ∃ i H', Inv (X.blk s3 H3 scope ce fp) [] (wipe σ (own.map (·.2))) H' s' ∧ tn i s'.heap ∧ (∀ b ∈ fp, H' b = none) ∧ W i m H' := fun {s' H'} I' nx => by
      obtain ⟨m', hm, w'⟩ := hNx H' nx
      have pinned : ∀ b ∈ fp, ∀ o, s7.heap.get? b = some o → s'.heap.get? b = some o ∧ H' b = none := fun b hb o e => by
        have z := I'.pin (b, o) (List.mem_append_right _ (List.mem_append_right _ (mem_pinsAt hb e)))
        exact ⟨z.1, z.2.1⟩
      have len : (wipe σ (own.map (·.2))).length = σ8.length := by rw [← hw8, wipe_length]
      refine ⟨m', hm, i + 1, H', (I'.unpinned (pins := [])).weak len (fun j v e => ?_), T.keep _ _ _ st7 fun b hb o e => (pinned b hb o e).1, fun b hb => ?_, w'⟩
      · rw [← hw8] at e
        exact (wipe_some e).1
      · obtain ⟨o, e, _⟩ := T.obj _ _ st7 b hb
        exact (pinned b hb o e).2
    cases b with
    | false =>
      simp only [Bool.false_eq_true, if_false] at q9 ⊢
      exact next I9 q9
    | true =>
      simp only [if_true] at q9 ⊢
      refine thnF (pe.run _ s9 σ8 H9 _ I9 q9) fun z s10 ⟨yv, H10, I10, r10, zt, l0, ey, hD10, hz10, nx⟩ => ?_
      subst ey
      obtain ⟨tk, rfl⟩ : ∃ tk, z = Value.str zt tk := r10
      exact so_add (X := X.blk s3 H3 scope ce fp) I10 hD10 hz10 fun s11 I11 => next I11 nx
end
end TX

namespace K6
open PySem PySem.Spec PyProof.Rows L2 GR WX TX
def varName : PyData → Option Str
  | .tuple [.str w, .str z] => if w = "var" then some z else none
  | _ => none
/-- the variables among these parts -/
def vars (l : List PyData) : List Str := l.filterMap varName
theorem Ex.var {zs : List Str} {n : Nat} {rest : List PyData} (h : Ex zs n (.tuple (.str "var" :: rest))) : ∃ z, z ∈ zs ∧ rest = [.str z] := by
  generalize hx : PyData.tuple (.str "var" :: rest) = x at h
  cases h with
  | leaf n x h =>
    cases h with
    | int i _ _ => cases hx
    | let_ i _ _ => cases hx
    | key => cases hx
    | var z hz =>
      cases hx
      exact ⟨z, hz, rfl⟩
  | cell n t v x h1 h2 h3 => cases hx
  | op n o x y h1 h2 h3 =>
    cases hx
    exact absurd h1 (by decide)
  | iff n x y z h1 h2 h3 => cases hx
  | agg n o t xs ys h1 h2 h3 h4 h5 =>
    cases hx
    simp only [aggs, List.mem_cons, List.not_mem_nil, or_false, Prod.mk.injEq] at h1
    rcases h1 with ⟨h, _⟩ | ⟨h, _⟩ | ⟨h, _⟩ | ⟨h, _⟩ <;> exact absurd h (by decide)
theorem varName_no {w : Str} {rest : List PyData} (h : w ≠ "var") : varName (.tuple (.str w :: rest)) = none := by
  unfold varName
  split
  · rename_i w' z e
    cases e
    rw [if_neg h]
  · rfl
theorem vars_take {l : List PyData} {i : Nat} {x : PyData} (h : l[i]? = some x) : vars (l.take (i + 1)) = vars (l.take i) ++ (varName x).toList := by
  unfold vars
  rw [take_snoc h, List.filterMap_append]
  cases e : varName x with
  | none => simp [e]
  | some z => simp [e]
theorem lvls_ex {zs : List Str} : ∀ {n : Nat} {l : List PyData}, (∀ x, x ∈ l → Ex zs n x) → ∀ y, y ∈ lvls n l → Ex zs n y
  | 0, l, h, y, hy => by
    simp only [lvls, List.not_mem_nil] at hy
  | n + 1, l, h, y, hy => by
    rw [lvls] at hy
    rcases List.mem_append.mp hy with hy | hy
    · exact h y hy
    · exact (lvls_ex (down_ex h) y hy).mono (Nat.le_succ n)
theorem vars_in {zs : List Str} {n : Nat} {l : List PyData} (h : ∀ x, x ∈ l → Ex zs n x) : ∀ z, z ∈ vars l → z ∈ zs := by
  intro z hz
  obtain ⟨x, hx, e⟩ := List.mem_filterMap.mp hz
  obtain ⟨w, fs, rest, rfl, _, _⟩ := (h x hx).form
  by_cases hw : w = "var"
  · subst hw
    obtain ⟨z', hz', rfl⟩ := (h _ hx).var
    unfold varName at e
    simp only [if_pos] at e
    exact Option.some.inj e ▸ hz'
  · rw [varName_no hw] at e
    cases e
theorem nodup_le : ∀ {l m : List Str}, l.Nodup → (∀ z, z ∈ l → z ∈ m) → l.length ≤ m.length
  | [], _, _, _ => Nat.zero_le _
  | a :: l, m, h, s => by
    obtain ⟨h1, h2⟩ := List.nodup_cons.mp h
    have ha := s a List.mem_cons_self
    have := nodup_le (m := m.erase a) h2 fun z hz => by
      have hne : z ≠ a := fun e => h1 (e ▸ hz)
      exact (List.mem_erase_of_ne hne).mpr (s z (List.mem_cons_of_mem _ hz))
    rw [List.length_erase_of_mem ha] at this
    have pos : 0 < m.length := List.length_pos_of_mem ha
    rw [List.length_cons]
    omega
section
variable {P : Program} {w : World} {K : PySem.W.Frag} {mg : Str → Option Value} {base : Heap}
abbrev s_variables_of : Stmt := topS 17
abbrev N_vars : List Str := ["expression", "part"]
theorem sc_variables_of : FnScope N_vars ["expression"] (defScope s_variables_of) := ⟨rfl, rfl, rfl, by decide +kernel, rfl, by decide +kernel, by decide +kernel⟩
def sp_variables_of (K : PySem.W.Frag) : Sp := fun vs H Q _ => ∃ (v : V) (x : PyData) (zs : List Str) (n : Nat), vs = [v] ∧ Dp K H v x ∧ Ex zs n x ∧ (flatP n x).length ≤ 2100000 ∧ zs.length ≤ 60 ∧
  ∀ H' p ys, Same H H' → H p = none → H' p = some (.tup (ys.map V.str)) → ys.Nodup → sortedS ys = true → (∀ z, z ∈ ys ↔ z ∈ vars (lvls n [x])) → Q (.ref p) H'
theorem ok_variables_of {f fc : Addr} {fd fdc : FuncData} {k : Nat} (F : Fun K "variables_of" "variables_of" s_variables_of f fd) (Gc : FnOk P w K mg base CX0 k fc fdc ["expression"] (sp_all_parts K)) (gc : mg "all_parts" = some (.ref fc)) (Kc : PySem.W.keepIn K (.ref fc) = true) (bc : Binds K fdc ["expression"] [])
    (msorted : mg "sorted" = none) (mtuple : mg "tuple" = none) : FnOk P w K mg base CX0 (k + 1) f fd ["expression"] (sp_variables_of K) := by
  have nd := sc_variables_of.nd
  refine F.ok sc_variables_of (fun vs H Q E h => ?_) (fun cdv A outer s H vs Q E hr h => ?_)
  · obtain ⟨v, x, zs, n, rfl, _⟩ := h
    rfl
  obtain ⟨v, x, zs, n, rfl, hd, he, hb, hz, q⟩ := h
  refine ⟨_, (pss_one (ps_ret (pe_callTy call_tuple_of (by rfl) mtuple boot_tuple (pa_cons (pe_callB (cr_sortedSS rfl) (by rfl) msorted boot_sorted (pa_cons (pe_scS (own := [("part", 1)]) rfl nd (pi_list (pe_call Gc hr (by rfl) gc Kc bc .nil pass0 (pa_cons (pv 0) pa_nil))) (blkOk_by (N := N_vars) (sc := defScope s_variables_of) (by decide +kernel))
      (fun _ _ _ _ _ => (pg_name (i := 1) nd rfl (Or.inl rfl)))
      (tt := tTest (tOp rEq (tOp (rIxT K) (tVar 1) (tC (.int 0))) (tC (.str "var")))) (fun _ _ _ _ _ => pts_one (pt_cmpR op_eq (pe_ix ix_tup (pv 1) pe_int (fun _ _ => rfl)) pe_str (nomark _)))
      (te := tOp (rIxT K) (tVar 1) (tC (.int 1))) (fun _ _ _ _ _ => (pe_ix ix_tup (pv 1) pe_int (fun _ _ => rfl)))) pa_nil)) pa_nil)))), ?_⟩
  refine ⟨v, rfl, v, x, zs, n, rfl, hd, he, hb, fun H1 p us s1 np hp hu => ⟨p, rfl, ⟨us, .inl (.inl hp)⟩, fun D nD => ?_⟩⟩
  have hx1 : ∀ y, y ∈ [x] → Ex zs n y := fun y hy => by
    rw [List.mem_singleton.mp hy]
    exact he
  have hE := lvls_ex hx1
  have lu := dpAll_len hu
  have npD := ne_of_none hp nD
  have hvz := vars_in hE
  refine walk_body (xs := us) (fun i H' => ∃ l, H' D = some (SetSO w D l) ∧ l.Nodup ∧ (∀ z, z ∈ l ↔ z ∈ vars ((lvls n [x]).take i)) ∧ Same H1 H') ?_ ?_ ?_ ?_
  · refine ⟨[], upd_same, .nil, fun z => ?_, same_upd nD⟩
    rw [List.take_zero]
    exact Iff.rfl
  · rintro i H' _ ⟨l, hl, hn, hm, kk⟩
    exact .inl (.inl (kk _ _ hp))
  · rintro i y H' hy ⟨l, hl, hn, hm, kk⟩
    obtain ⟨d, hdi, hyd⟩ := dpAll_at hu hy
    have ex := hE d (List.mem_of_getElem? hdi)
    have hyd2 := ex.kept (KeepT.of kk) hyd
    have vt := vars_take hdi
    obtain ⟨wd, fs, rest, rfl, _, _⟩ := ex.form
    cases hyd2 with
    | tup hS hA =>
    cases hA with
    | cons hw hA =>
    cases hw
    rename_i a vs
    refine ⟨rfl, .ref a, rfl, a, _, 0, .str wd, rfl, rfl, hS, at0, rfl, _, rfl, ite2 (fun e1 => ?_) (fun e1 => ?_)⟩
    · have e1 : wd = "var" := by simpa using e1
      subst e1
      obtain ⟨z, hzz, rfl⟩ := ex.var
      cases hA with
      | cons hw hA =>
      cases hw
      refine ⟨.ref a, rfl, a, _, 1, .str z, rfl, rfl, hS, at1, z, l, rfl, hl, ?_, put z l, upd_same, put_nodup hn, fun z' => ?_, fun b o e => ?_⟩
      · have := nodup_le (m := zs) hn fun z' hz' => hvz z' (by
          have h1 := (hm z').mp hz'
          obtain ⟨y, hy, e⟩ := List.mem_filterMap.mp h1
          exact List.mem_filterMap.mpr ⟨y, List.mem_of_mem_take hy, e⟩)
        show _ < 4096
        omega
      · rw [mem_put, vt, List.mem_append, hm z']
        have : (varName (.tuple [.str "var", .str z])).toList = [z] := by
          unfold varName
          simp
        rw [this, List.mem_singleton]
        exact Or.comm
      · rw [upd_ne (ne_of_none e nD)]
        exact kk _ _ e
    · have e1 : wd ≠ "var" := fun z => e1 (by simpa using z)
      refine ⟨l, hl, hn, fun z => ?_, kk⟩
      rw [vt, varName_no e1, hm z]
      simp
  · rintro H' ⟨l, hl, hn, hm, kk⟩
    rw [lu, List.take_length] at hm
    have h6 := nodup_le (m := zs) hn fun z' hz' => hvz z' ((hm z').mp hz')
    refine ⟨D, l, rfl, hl, by omega, fun ys r hperm hsrt nr => ?_⟩
    have sr := same_upd (o := .lst (ys.map V.str)) nr
    refine ⟨r, ys.map V.str, rfl, .inl ⟨.inl (.inl upd_same), fun t nt => ?_⟩⟩
    have st := same_upd (o := .tup (ys.map V.str)) nt
    refine q _ t ys (s1.trans (kk.trans (sr.trans st))) ((s1.trans (kk.trans sr)).free nt) upd_same (hperm.nodup_iff.mpr hn) hsrt fun z => ?_
    rw [hperm.mem_iff]
    exact hm z
end
end K6

namespace K6
open PySem PySem.Spec PyProof.Rows L2 GR WX TX
def rowsD (t : Str) : PyData := .tuple [.str "cell", .str t, .tuple [.str "key"], .str "in"]
abbrev aggW : List Str := ["count", "sum", "most", "first"]
/-- the word of a part -/
def headW : PyData → Str
  | .tuple (.str w :: _) => w
  | _ => Str.empty
/-- a part may stand in a plain expression -/
def plainP : PyData → Bool
  | .tuple (.str w :: .str t :: x :: y :: r) => if w ∈ aggW then PyData.eqv x (.tuple []) && PyData.eqv y (rowsD t) else decide (w ≠ "let")
  | .tuple (.str w :: _) => decide (w ≠ "let")
  | _ => true
def simpleP (x : PyData) : Bool := decide (headW x ∉ aggW)
/-! ### what can be compared -/
theorem lay_all : ∀ {l : List PyData}, (∀ x, x ∈ l → x.canLay0 = true) → PyData.canLayAll0 l = true
  | [], _ => by simp only [PyData.canLayAll0]
  | x :: l, h => by
    rw [PyData.canLayAll0, h x List.mem_cons_self, lay_all fun y hy => h y (List.mem_cons_of_mem _ hy)]
    rfl
theorem ok_words : ∀ w, w ∈ (["int", "let", "key", "var", "cell", "if", "+", "-", "*", "<", "=", "at", "count", "sum", "most", "first", "in"] : List Str) → PyData.strOk w = true := by decide +kernel
theorem lay_of {zs : List Str} (hz : ∀ z, z ∈ zs → PyData.strOk z = true) : ∀ {n : Nat} {x : PyData}, Ex zs n x → x.canLay0 = true := by
  intro n x h
  induction h with
  | leaf n x h =>
    cases h with
    | int i _ _ => simp only [PyData.canLay0, PyData.canLayAll0, Bool.and_true, ok_words "int" (by decide)]
    | let_ i _ _ => simp only [PyData.canLay0, PyData.canLayAll0, Bool.and_true, ok_words "let" (by decide)]
    | key => simp only [PyData.canLay0, PyData.canLayAll0, Bool.and_true, ok_words "key" (by decide)]
    | var z h => simp only [PyData.canLay0, PyData.canLayAll0, Bool.and_true, hz z h, ok_words "var" (by decide)]
  | cell n t v x h1 h2 h3 ih => simp only [PyData.canLay0, PyData.canLayAll0, Bool.and_true, hz t h1, hz v h2, ih, ok_words "cell" (by decide)]
  | op n o x y h1 h2 h3 ih1 ih2 =>
    have : PyData.strOk o = true := by
      simp only [opws, List.mem_cons, List.not_mem_nil, or_false] at h1
      rcases h1 with rfl | rfl | rfl | rfl | rfl | rfl <;> exact ok_words _ (by decide)
    simp only [PyData.canLay0, PyData.canLayAll0, Bool.and_true, this, ih1, ih2]
  | iff n x y z h1 h2 h3 ih1 ih2 ih3 => simp only [PyData.canLay0, PyData.canLayAll0, Bool.and_true, ih1, ih2, ih3, ok_words "if" (by decide)]
  | agg n o t xs ys h1 h2 h3 h4 h5 ih1 ih2 =>
    have ho : PyData.strOk o = true := by
      simp only [aggs, List.mem_cons, List.not_mem_nil, or_false, Prod.mk.injEq] at h1
      rcases h1 with ⟨rfl, _⟩ | ⟨rfl, _⟩ | ⟨rfl, _⟩ | ⟨rfl, _⟩ <;> exact ok_words _ (by decide)
    simp only [PyData.canLay0, PyData.canLayAll0, Bool.and_true, ho, hz t h2, lay_all ih1, lay_all ih2]
theorem depth_all {b : Nat} : ∀ {l : List PyData}, (∀ x, x ∈ l → x.depth ≤ b) → PyData.depthAll l ≤ b
  | [], _ => by simp only [PyData.depthAll]; exact Nat.zero_le _
  | x :: l, h => by
    have h1 := h x List.mem_cons_self
    have h2 := depth_all fun y hy => h y (List.mem_cons_of_mem _ hy)
    simp only [PyData.depthAll]
    omega
theorem depth_of {zs : List Str} : ∀ {n : Nat} {x : PyData}, Ex zs n x → x.depth ≤ 2 * n := by
  intro n x h
  induction h with
  | leaf n x h =>
    cases h <;> simp only [PyData.depth, PyData.depthAll] <;> omega
  | cell n t v x h1 h2 h3 ih =>
    simp only [PyData.depth, PyData.depthAll]
    omega
  | op n o x y h1 h2 h3 ih1 ih2 =>
    simp only [PyData.depth, PyData.depthAll]
    omega
  | iff n x y z h1 h2 h3 ih1 ih2 ih3 =>
    simp only [PyData.depth, PyData.depthAll]
    omega
  | agg n o t xs ys h1 h2 h3 h4 h5 ih1 ih2 =>
    have a := depth_all ih1
    have b := depth_all ih2
    simp only [PyData.depth, PyData.depthAll]
    omega
theorem shaped_of {zs : List Str} {n : Nat} {x : PyData} (hz : ∀ z, z ∈ zs → PyData.strOk z = true) (hn : n ≤ 32) (h : Ex zs n x) : SeqAt.shaped x = true := by
  have := depth_of h
  unfold SeqAt.shaped
  rw [lay_of hz h, Bool.true_and]
  exact decide_eq_true (by omega)
end K6

namespace K6
open PySem PySem.Spec PyProof.Rows L2 GR WX TX
theorem aggs_w {o : Str} {n : Nat} (h : (o, n) ∈ aggs) : o ∈ aggW ∧ 2 ≤ n := by
  simp only [aggs, List.mem_cons, List.not_mem_nil, or_false, Prod.mk.injEq] at h
  rcases h with ⟨rfl, rfl⟩ | ⟨rfl, rfl⟩ | ⟨rfl, rfl⟩ | ⟨rfl, rfl⟩ <;> exact ⟨by decide, by decide⟩
/-- an aggregate, by its word -/
theorem Ex.agg_of {zs : List Str} {n : Nat} {o : Str} {rest : List PyData} (h : Ex zs n (.tuple (.str o :: rest))) (ho : o ∈ aggW) : ∃ m t xs y ys, n = m + 1 ∧ rest = .str t :: .tuple xs :: y :: ys ∧ t ∈ zs ∧ (o, ys.length + 1) ∈ aggs ∧ xs.length ≤ 2 ∧ (∀ x, x ∈ xs → Ex zs m x) ∧ Ex zs m y ∧ ∀ z, z ∈ ys → Ex zs m z := by
  generalize hx : PyData.tuple (.str o :: rest) = x at h
  cases h with
  | leaf n x h =>
    cases h <;> cases hx <;> exact absurd ho (by decide)
  | cell n t v x h1 h2 h3 =>
    cases hx
    exact absurd ho (by decide)
  | op n o' x y h1 h2 h3 =>
    cases hx
    simp only [opws, List.mem_cons, List.not_mem_nil, or_false] at h1
    rcases h1 with rfl | rfl | rfl | rfl | rfl | rfl <;> exact absurd ho (by decide)
  | iff n x y z h1 h2 h3 =>
    cases hx
    exact absurd ho (by decide)
  | agg n o' t xs ys h1 h2 h3 h4 h5 =>
    cases hx
    have := (aggs_w h1).2
    match ys, h1, h5, this with
    | y :: ys, h1, h5, _ => exact ⟨n, t, xs, y, ys, rfl, rfl, h2, h1, h3, h4, h5 y List.mem_cons_self, fun z hz => h5 z (List.mem_cons_of_mem _ hz)⟩
theorem plain_agg {o t : Str} {x y : PyData} {r : List PyData} (h : o ∈ aggW) : plainP (.tuple (.str o :: .str t :: x :: y :: r)) = (PyData.eqv x (.tuple []) && PyData.eqv y (rowsD t)) := by
  exact if_pos h
theorem plain_no {o : Str} {r : List PyData} (h : o ∉ aggW) : plainP (.tuple (.str o :: r)) = decide (o ≠ "let") := by
  unfold plainP
  split
  · rename_i w t x y r' e
    cases e
    rw [if_neg h]
  · rename_i e
    cases e
    rfl
  · rename_i h1 h2
    exact absurd rfl (h2 _ _)
section
variable {P : Program} {w : World} {K : PySem.W.Frag} {mg : Str → Option Value} {base : Heap}
abbrev s_rows_of : Stmt := topS 11
theorem sc_rows_of : FnScope ["table"] ["table"] (defScope s_rows_of) := ⟨rfl, rfl, rfl, by decide +kernel, rfl, by decide +kernel, by decide +kernel⟩
def sp_rows_of (K : PySem.W.Frag) : Sp := fun vs H Q _ => ∃ t, vs = [.str t] ∧ ∀ H' v, Same H H' → Dp K H' v (rowsD t) → Q v H'
theorem ok_rows_of {f : Addr} {fd : FuncData} {k : Nat} (F : Fun K "rows_of" "rows_of" s_rows_of f fd) : FnOk P w K mg base CX0 (k + 1) f fd ["table"] (sp_rows_of K) := by
  have nd := sc_rows_of.nd
  refine F.ok sc_rows_of (fun vs H Q E h => ?_) (fun cdv A outer s H vs Q E hr h => ?_)
  · obtain ⟨t, rfl, _⟩ := h
    rfl
  obtain ⟨t, rfl, q⟩ := h
  refine ⟨_, (pss_one (ps_ret (pe_tup (pa_cons pe_str (pa_cons (pv 0) (pa_cons (pe_tup (pa_cons pe_str pa_nil)) (pa_cons pe_str pa_nil))))))), ?_⟩
  refine ⟨.str t, rfl, small_le (show 1 ≤ 1000 by decide), fun p np => ⟨small_le (show 4 ≤ 1000 by decide), fun r nr => ?_⟩⟩
  have s1 := same_upd (o := .tup [.str "key"]) np
  have s2 := same_upd (o := .tup [.str "cell", .str t, .ref p, .str "in"]) nr
  refine q _ _ (s1.trans s2) (.tup (.inl (.inl upd_same)) (.cons (.str _) (.cons (.str t) (.cons (.tup (.inl (.inl (s2 _ _ upd_same))) (.cons (.str _) .nil)) (.cons (.str _) .nil)))))
/-- the aggregates' words, written -/
def AggK (K : PySem.W.Frag) (aA : Addr) : Prop := ∀ H, SqT K H aA (aggW.map V.str)
abbrev s_is_plain_part : Stmt := topS 13
theorem sc_is_plain_part : FnScope ["part"] ["part"] (defScope s_is_plain_part) := ⟨rfl, rfl, rfl, by decide +kernel, rfl, by decide +kernel, by decide +kernel⟩
/-- a test of an expression -/
def sp_test (K : PySem.W.Frag) (f : Nat → PyData → Bool) : Sp := fun vs H Q _ => ∃ (v : V) (x : PyData) (zs : List Str) (n : Nat), vs = [v] ∧ Dp K H v x ∧ Ex zs n x ∧ (flatP n x).length ≤ 2100000 ∧ n ≤ 30 ∧ zs.length ≤ 60 ∧ (∀ z, z ∈ zs → PyData.strOk z = true) ∧ ∀ H', Same H H' → Q (.bl (f n x)) H'
theorem shaped_rows {t : Str} (h : PyData.strOk t = true) : SeqAt.shaped (rowsD t) = true := by
  unfold SeqAt.shaped rowsD
  simp only [PyData.canLay0, PyData.canLayAll0, Bool.and_true, h, ok_words "key" (by decide), ok_words "cell" (by decide), ok_words "in" (by decide), Bool.true_and, PyData.depth, PyData.depthAll]
  exact decide_eq_true (by omega)
theorem ok_is_plain_part {f fr aA : Addr} {fd fdr : FuncData} {k : Nat} (F : Fun K "is_plain_part" "is_plain_part" s_is_plain_part f fd) (Gr : FnOk P w K mg base CX0 k fr fdr ["table"] (sp_rows_of K)) (gr : mg "rows_of" = some (.ref fr)) (Kr : PySem.W.keepIn K (.ref fr) = true) (br : Binds K fdr ["table"] [])
    (mAGG : mg "AGGREGATES" = some (.ref aA)) (T : AggK K aA) : FnOk P w K mg base CX0 (k + 1) f fd ["part"] (sp_test K fun _ => plainP) := by
  have nd := sc_is_plain_part.nd
  refine F.ok sc_is_plain_part (fun vs H Q E h => ?_) (fun cdv A outer s H vs Q E hr h => ?_)
  · obtain ⟨v, x, zs, n, rfl, _⟩ := h
    rfl
  obtain ⟨v, x, zs, n, rfl, hd, he, hb, hn, h60, hz, q⟩ := h
  refine ⟨_, (pss_cons (ps_if (pt_cmpR op_in_seq (pe_ix ix_tup (pv 0) pe_int (fun _ _ => rfl)) (pe_glob rfl mAGG (v := .ref aA) rfl) (by rfl))
      (pss_one (ps_ret (pe_and (pe_cmpR (op_eqD hr.units) (pe_ix ix_tup (pv 0) pe_int (fun _ _ => rfl)) (pe_tup pa_nil) (nomark _)) (pe_one (pe_cmpR (op_eqD hr.units) (pe_ix ix_tup (pv 0) pe_int (fun _ _ => rfl)) (pe_call Gr hr (by rfl) gr Kr br .nil pass0 (pa_cons (pe_ix ix_tup (pv 0) pe_int (fun _ _ => rfl)) pa_nil)) (nomark _))))))
      pss_nil)
      (pss_one (ps_ret (pe_cmpR op_ne (pe_ix ix_tup (pv 0) pe_int (fun _ _ => rfl)) pe_str (nomark _))))), ?_⟩
  obtain ⟨wd, fs, rest, rfl, hft, hff⟩ := he.form
  have hfl := he.flat
  cases hd with
  | tup hS hA =>
  cases hA with
  | cons hw hA =>
  cases hw
  rename_i a vs
  refine ⟨.ref a, rfl, a, _, 0, .str wd, rfl, rfl, hS, at0, aA, _, rfl, .inr (T H), rfl, flat_strs aggW, _, rfl, ?_⟩
  rw [wanted_in]
  refine ite2 (fun e1 => ?_) (fun e1 => ?_)
  · have e1 : wd ∈ aggW := by simpa using e1
    obtain ⟨m, t, xs, y, ys, rfl, rfl, ht, ho, hx2, hxs, hy, hys⟩ := he.agg_of e1
    cases hA with
    | @cons v1 vs1 d1 ds1 g1 hA =>
    cases g1
    cases hA with
    | @cons v2 vs2 d2 ds2 g2 hA =>
    cases hA with
    | @cons v3 vs3 d3 ds3 g3 hA =>
    have hq : ∀ H', Same H H' → Q (.bl (PyData.eqv (.tuple xs) (.tuple []) && PyData.eqv y (rowsD t))) H' := fun H' s' => by
      have := q H' s'
      rw [← plain_agg (r := ys) e1]
      exact this
    refine ⟨.ref a, rfl, a, _, 2, v2, rfl, rfl, hS, at2, Nat.zero_le _, fun p np => ?_⟩
    have sp := same_upd (o := .tup []) np
    have fx : flatD (.tuple xs) = true := by
      rw [flatD]
      exact flat_all hxs
    have lx : SeqAt.shaped (.tuple xs) = true := by
      have d1 := depth_all fun x hx => depth_of (hxs x hx)
      unfold SeqAt.shaped
      simp only [PyData.canLay0, PyData.depth, lay_all fun x hx => lay_of hz (hxs x hx), Bool.true_and]
      exact decide_eq_true (by omega)
    refine ⟨.tuple xs, .tuple [], dp_keep (KeepT.of sp) _ _ fx g2, .tup (.inl (.inl upd_same)) .nil, lx, by decide +kernel, _, rfl, ?_⟩
    cases hc : PyData.eqv (.tuple xs) (.tuple []) with
    | false =>
      have := hq _ sp
      rw [hc] at this
      exact iteF this
    | true =>
      refine iteT ⟨.ref a, rfl, a, _, 3, v3, rfl, rfl, (KeepT.of sp).seqt hS, at3, .ref a, rfl, a, _, 1, .str t, rfl, rfl, (KeepT.of sp).seqt hS, at1, t, rfl, fun H2 v s2 dv => ⟨y, rowsD t, dp_keep ((KeepT.of sp).trans (KeepT.of s2)) _ _ hy.flat g3, dv, shaped_of hz (by omega) hy, shaped_rows (hz t ht), ?_⟩⟩
      have := hq _ (sp.trans s2)
      rw [hc, Bool.true_and] at this
      exact this
  · have e1 : wd ∉ aggW := fun z => e1 (by simpa using z)
    refine ⟨.ref a, rfl, a, _, 0, .str wd, rfl, rfl, hS, at0, rfl, ?_⟩
    have this : Q (.bl (plainP (.tuple (.str wd :: rest)))) H := q H (fun _ _ e => e)
    rw [plain_no e1] at this
    have e2 : (!decide (V.str wd = V.str "let")) = decide (wd ≠ "let") := by
      by_cases z : wd = "let" <;> simp [z]
    rw [e2]
    exact this
end
end K6

namespace K6
open PySem PySem.Spec PyProof.Rows L2 GR WX TX
theorem kept_len {K : PySem.W.Frag} {bs : List Bool} : (bs.map V.bl).length = bs.length := List.length_map ..
theorem stable_f {zs : List Str} : ∀ {m k : Nat} {x : PyData}, Ex zs m x → m ≤ k → flatP k x = flatP m x
  | 0, _, _, h, _ => by cases h
  | m + 1, 0, _, _, hk => by omega
  | m + 1, k + 1, x, h, hk => by
    simp only [flatP]
    congr 1
    have : ∀ l : List PyData, (∀ y, y ∈ l → Ex zs m y) → l.flatMap (flatP k) = l.flatMap (flatP m) := by
      intro l
      induction l with
      | nil => intro _; rfl
      | cons y l ih =>
        intro hl
        rw [List.flatMap_cons, List.flatMap_cons, stable_f (hl y List.mem_cons_self) (by omega : m ≤ k), ih fun z hz => hl z (List.mem_cons_of_mem _ hz)]
    exact this _ h.kids.1
/-- a part has no more parts than the whole -/
theorem part_len {zs : List Str} : ∀ {n : Nat} {x d : PyData}, Ex zs n x → d ∈ flatP n x → (flatP n d).length ≤ (flatP n x).length
  | 0, _, _, h, _ => by cases h
  | n + 1, x, d, h, hd => by
    rw [flatP] at hd
    rcases List.mem_cons.mp hd with rfl | hd
    · exact Nat.le_refl _
    · obtain ⟨y, hy, hd⟩ := List.mem_flatMap.mp hd
      have ey := h.kids.1 y hy
      have ed : Ex zs n d := by
        have hp := (lvls_perm n [y]).mem_iff (a := d)
        rw [List.flatMap_cons, List.flatMap_nil, List.append_nil] at hp
        exact lvls_ex (fun z hz => by
          rw [List.mem_singleton.mp hz]
          exact ey) d (hp.mpr hd)
      have h1 := part_len ey hd
      rw [stable_f ed (Nat.le_succ n)]
      have h2 : (flatP n y).length ≤ ((kids x).flatMap (flatP n)).length := by
        rw [List.length_flatMap]
        have : ∀ l : List PyData, y ∈ l → (flatP n y).length ≤ (l.map fun z => (flatP n z).length).sum := by
          intro l
          induction l with
          | nil => intro h; cases h
          | cons z l ih =>
            intro h
            rw [List.map_cons, List.sum_cons]
            rcases List.mem_cons.mp h with rfl | h
            · omega
            · have := ih h
              omega
        exact this _ hy
      show _ ≤ ((x :: (kids x).flatMap (flatP n))).length
      rw [List.length_cons]
      omega
section
variable {P : Program} {w : World} {K : PySem.W.Frag} {mg : Str → Option Value} {base : Heap}
/-- truth values are being made into the list at D, f of each part -/
def BInv (f : PyData → Bool) (H1 : Hp) (D : Addr) (xs : List PyData) (i : Nat) (H : Hp) : Prop := H D = some (.lst (((xs.take i).map f).map V.bl)) ∧ Same H1 H
theorem BInv.start {f : PyData → Bool} {H1 : Hp} {D : Addr} {xs : List PyData} (nD : H1 D = none) : BInv f H1 D xs 0 (upd H1 D (.lst [])) := ⟨upd_same, same_upd nD⟩
theorem BInv.step {f : PyData → Bool} {H1 H H' : Hp} {D : Addr} {xs : List PyData} {i : Nat} {x : PyData} (B : BInv f H1 D xs i H) (nD : H1 D = none) (s : Same H H') (h : xs[i]? = some x) (hl : xs.length ≤ 2100000) :
    ∃ acc, H' D = some (.lst acc) ∧ acc.length < sizeLine ∧ BInv f H1 D xs (i + 1) (upd H' D (.lst (acc ++ [.bl (f x)]))) := by
  obtain ⟨hD, kk⟩ := B
  refine ⟨_, s _ _ hD, ?_, ?_, fun b o e => ?_⟩
  · rw [List.length_map, List.length_map, List.length_take, sizeLine_eq]
    omega
  · rw [upd_same, take_snoc h, List.map_append, List.map_append]
    rfl
  · rw [upd_ne (ne_of_none e nD)]
    exact s _ _ (kk _ _ e)
abbrev N_test : List Str := ["expression", "part"]
abbrev s_is_plain : Stmt := topS 12
theorem sc_is_plain : FnScope N_test ["expression"] (defScope s_is_plain) := ⟨rfl, rfl, rfl, by decide +kernel, rfl, by decide +kernel, by decide +kernel⟩
def plainE (n : Nat) (x : PyData) : Bool := (lvls n [x]).all plainP
theorem all_map (f : PyData → Bool) (l : List PyData) : (l.map f).all id = l.all f := by
  rw [List.all_map]
  rfl
theorem ok_is_plain {f fc fp : Addr} {fd fdc fdp : FuncData} {k : Nat} (F : Fun K "is_plain" "is_plain" s_is_plain f fd) (Gc : FnOk P w K mg base CX0 k fc fdc ["expression"] (sp_all_parts K)) (gc : mg "all_parts" = some (.ref fc)) (Kc : PySem.W.keepIn K (.ref fc) = true) (bc : Binds K fdc ["expression"] [])
    (Gp : FnOk P w K mg base CX0 k fp fdp ["part"] (sp_test K fun _ => plainP)) (gp : mg "is_plain_part" = some (.ref fp)) (Kp : PySem.W.keepIn K (.ref fp) = true) (bp : Binds K fdp ["part"] []) (mall : mg "all" = none) : FnOk P w K mg base CX0 (k + 1) f fd ["expression"] (sp_test K plainE) := by
  have nd := sc_is_plain.nd
  refine F.ok sc_is_plain (fun vs H Q E h => ?_) (fun cdv A outer s H vs Q E hr h => ?_)
  · obtain ⟨v, x, zs, n, rfl, _⟩ := h
    rfl
  obtain ⟨v, x, zs, n, rfl, hd, he, hb, hn, h60, hz, q⟩ := h
  refine ⟨_, (pss_one (ps_ret (pe_callB (cr_all rfl) (by rfl) mall boot_all (pa_cons (pe_lc (own := [("part", 1)]) rfl nd (pi_list (pe_call Gc hr (by rfl) gc Kc bc .nil pass0 (pa_cons (pv 0) pa_nil))) (blkOk_by (N := N_test) (sc := defScope s_is_plain) (by decide +kernel)) (fun _ _ _ _ _ => (pg_name (i := 1) nd rfl (Or.inl rfl))) (fun _ _ _ _ _ => pts_nil)
      (te := tCall (sp_test K fun _ => plainP) [] E0 (tCons (tVar 1) tNil)) (fun _ _ _ _ _ => (pe_call Gp hr (by rfl) gp Kp bp .nil pass0 (pa_cons (pv 1) pa_nil)))) pa_nil)))), ?_⟩
  refine ⟨v, rfl, v, x, zs, n, rfl, hd, he, hb, fun H1 p us s1 np hp hu => ⟨p, rfl, ⟨us, .inl (.inl hp)⟩, fun D nD => ?_⟩⟩
  have hE : ∀ y, y ∈ lvls n [x] → Ex zs n y := lvls_ex fun y hy => by
    rw [List.mem_singleton.mp hy]
    exact he
  have lu := dpAll_len hu
  have ll := lvls_len he
  refine walk_body (xs := us) (BInv plainP H1 D (lvls n [x])) (BInv.start nD) ?_ ?_ ?_
  · rintro i H' _ B
    exact .inl (.inl (B.2 _ _ hp))
  · rintro i y H' hy B
    obtain ⟨d, hdi, hyd⟩ := dpAll_at hu hy
    have ex := hE d (List.mem_of_getElem? hdi)
    have hdf : d ∈ flatP n x := by
      have hp := (lvls_perm n [x]).mem_iff (a := d)
      rw [List.flatMap_cons, List.flatMap_nil, List.append_nil] at hp
      exact hp.mp (List.mem_of_getElem? hdi)
    exact ⟨rfl, yes_then ⟨y, rfl, y, d, zs, n, rfl, ex.kept (KeepT.of B.2) hyd, ex, Nat.le_trans (part_len he hdf) hb, hn, h60, hz, fun H2 s2 => B.step nD s2 hdi (by omega)⟩⟩
  · rintro H' ⟨hD, kk⟩
    rw [lu, List.take_length] at hD
    refine ⟨D, _, rfl, .inl (.inl hD), ?_⟩
    rw [all_map]
    exact q H' (s1.trans kk)
abbrev s_is_simple : Stmt := topS 16
theorem sc_is_simple : FnScope N_test ["expression"] (defScope s_is_simple) := ⟨rfl, rfl, rfl, by decide +kernel, rfl, by decide +kernel, by decide +kernel⟩
def simpleE (n : Nat) (x : PyData) : Bool := (lvls n [x]).all simpleP
theorem ok_is_simple {f fc aA : Addr} {fd fdc : FuncData} {k : Nat} (F : Fun K "is_simple" "is_simple" s_is_simple f fd) (Gc : FnOk P w K mg base CX0 k fc fdc ["expression"] (sp_all_parts K)) (gc : mg "all_parts" = some (.ref fc)) (Kc : PySem.W.keepIn K (.ref fc) = true) (bc : Binds K fdc ["expression"] [])
    (mAGG : mg "AGGREGATES" = some (.ref aA)) (T : AggK K aA) (mall : mg "all" = none) : FnOk P w K mg base CX0 (k + 1) f fd ["expression"] (sp_test K simpleE) := by
  have nd := sc_is_simple.nd
  refine F.ok sc_is_simple (fun vs H Q E h => ?_) (fun cdv A outer s H vs Q E hr h => ?_)
  · obtain ⟨v, x, zs, n, rfl, _⟩ := h
    rfl
  obtain ⟨v, x, zs, n, rfl, hd, he, hb, hn, h60, hz, q⟩ := h
  refine ⟨_, (pss_one (ps_ret (pe_callB (cr_all rfl) (by rfl) mall boot_all (pa_cons (pe_lc (own := [("part", 1)]) rfl nd (pi_list (pe_call Gc hr (by rfl) gc Kc bc .nil pass0 (pa_cons (pv 0) pa_nil))) (blkOk_by (N := N_test) (sc := defScope s_is_simple) (by decide +kernel)) (fun _ _ _ _ _ => (pg_name (i := 1) nd rfl (Or.inl rfl))) (fun _ _ _ _ _ => pts_nil)
      (te := tOp (rIn K true) (tOp (rIxT K) (tVar 1) (tC (.int 0))) (tC (.ref aA))) (fun _ _ _ _ _ => (pe_cmpR op_notIn_seq (pe_ix ix_tup (pv 1) pe_int (fun _ _ => rfl)) (pe_glob rfl mAGG (v := .ref aA) rfl) (by rfl)))) pa_nil)))), ?_⟩
  refine ⟨v, rfl, v, x, zs, n, rfl, hd, he, hb, fun H1 p us s1 np hp hu => ⟨p, rfl, ⟨us, .inl (.inl hp)⟩, fun D nD => ?_⟩⟩
  have hE : ∀ y, y ∈ lvls n [x] → Ex zs n y := lvls_ex fun y hy => by
    rw [List.mem_singleton.mp hy]
    exact he
  have lu := dpAll_len hu
  have ll := lvls_len he
  refine walk_body (xs := us) (BInv simpleP H1 D (lvls n [x])) (BInv.start nD) ?_ ?_ ?_
  · rintro i H' _ B
    exact .inl (.inl (B.2 _ _ hp))
  · rintro i y H' hy B
    obtain ⟨d, hdi, hyd⟩ := dpAll_at hu hy
    have ex := hE d (List.mem_of_getElem? hdi)
    have hyd2 := ex.kept (KeepT.of B.2) hyd
    obtain ⟨wd, fs, rest, rfl, hft, hff⟩ := ex.form
    cases hyd2 with
    | tup hS hA =>
    cases hA with
    | cons hw hA =>
    cases hw
    rename_i a vs
    refine ⟨rfl, yes_then ⟨.ref a, rfl, a, _, 0, .str wd, rfl, rfl, hS, at0, aA, _, rfl, .inr (T H'), rfl, flat_strs aggW, ?_⟩⟩
    have e : (if true = true then !inV (.str wd) (aggW.map V.str) else inV (.str wd) (aggW.map V.str)) = simpleP (.tuple (.str wd :: rest)) := by
      rw [if_pos rfl, wanted_in]
      unfold simpleP headW
      by_cases z : wd ∈ aggW <;> simp [z]
    rw [e]
    exact B.step nD (fun _ _ e => e) hdi (by omega)
  · rintro H' ⟨hD, kk⟩
    rw [lu, List.take_length] at hD
    refine ⟨D, _, rfl, .inl (.inl hD), ?_⟩
    rw [all_map]
    exact q H' (s1.trans kk)
end
end K6

namespace K6
open PySem PySem.Spec PyProof.Rows L2 GR WX TX
abbrev W1 : List Str := ["free"]
/-- what is contained and free -/
def kidsF : PyData → List PyData
  | .tuple (.str w :: rest) => pick W1 (fieldsOf w) rest
  | _ => []
theorem kidsF_of {w : Str} {fs : List Str} {rest : List PyData} (ht : (w, fs) ∈ table) : kidsF (.tuple (.str w :: rest)) = pick W1 fs rest := by
  show pick W1 (fieldsOf w) rest = _
  rw [show fieldsOf w = fs from fieldsOf_table (w, fs) ht]
theorem pick_sub : ∀ (fs : List Str) (ds : List PyData), (pick W1 fs ds).Sublist (pick W2 fs ds)
  | f :: fs, d :: ds => by
    simp only [pick]
    refine List.Sublist.append ?_ (pick_sub fs ds)
    by_cases h1 : f = "extra"
    · rw [if_pos h1, if_pos h1]
      exact List.Sublist.refl _
    · rw [if_neg h1, if_neg h1]
      by_cases h2 : f ∈ W1
      · have h3 : f ∈ W2 := by
          rw [List.mem_singleton.mp h2]
          decide
        rw [if_pos h2, if_pos h3]
        exact List.Sublist.refl _
      · rw [if_neg h2]
        exact List.nil_sublist _
  | [], _ => by simp only [pick]; exact List.Sublist.refl _
  | _ :: _, [] => by simp only [pick]; exact List.Sublist.refl _
theorem kidsF_sub (x : PyData) : (kidsF x).Sublist (kids x) := by
  unfold kidsF kids
  split
  · exact pick_sub _ _
  · exact List.nil_sublist _
def freeKey : Nat → PyData → Bool
  | 0, _ => false
  | n + 1, x => decide (headW x = "key") || (kidsF x).any (freeKey n)
theorem any_congr {α : Type} {f g : α → Bool} : ∀ {l : List α}, (∀ x, x ∈ l → f x = g x) → l.any f = l.any g
  | [], _ => rfl
  | x :: l, h => by
    rw [List.any_cons, List.any_cons, h x List.mem_cons_self, any_congr fun y hy => h y (List.mem_cons_of_mem _ hy)]
theorem Ex.kidsF {zs : List Str} {n : Nat} {x : PyData} (h : Ex zs (n + 1) x) : ∀ y, y ∈ kidsF x → Ex zs n y := fun y hy => h.kids.1 y ((kidsF_sub x).subset hy)
theorem free_stable {zs : List Str} : ∀ {m k : Nat} {x : PyData}, Ex zs m x → m ≤ k → freeKey k x = freeKey m x
  | 0, _, _, h, _ => by cases h
  | m + 1, 0, _, _, hk => by omega
  | m + 1, k + 1, x, h, hk => by
    simp only [freeKey]
    rw [any_congr fun y hy => free_stable (h.kidsF y hy) (by omega : m ≤ k)]
theorem flatMap_congr {α β : Type} {f g : α → List β} : ∀ {l : List α}, (∀ x, x ∈ l → f x = g x) → l.flatMap f = l.flatMap g
  | [], _ => rfl
  | x :: l, h => by
    rw [List.flatMap_cons, List.flatMap_cons, h x List.mem_cons_self, flatMap_congr fun y hy => h y (List.mem_cons_of_mem _ hy)]
theorem flatP_stable {zs : List Str} : ∀ {m k : Nat} {x : PyData}, Ex zs m x → m ≤ k → flatP k x = flatP m x
  | 0, _, _, h, _ => by cases h
  | m + 1, 0, _, _, hk => by omega
  | m + 1, k + 1, x, h, hk => by
    simp only [flatP]
    rw [flatMap_congr fun y hy => flatP_stable (h.kids.1 y hy) (by omega : m ≤ k)]
/-- how many parts the parts of a list have -/
def szL (n : Nat) (l : List PyData) : Nat := (l.map fun y => (flatP n y).length).sum
theorem szL_append (n : Nat) (a b : List PyData) : szL n (a ++ b) = szL n a + szL n b := by
  unfold szL
  rw [List.map_append, List.sum_append]
theorem szL_cons (n : Nat) (x : PyData) (l : List PyData) : szL n (x :: l) = (flatP n x).length + szL n l := by
  unfold szL
  rw [List.map_cons, List.sum_cons]
theorem szL_sub {n : Nat} {a b : List PyData} (h : a.Sublist b) : szL n a ≤ szL n b := by
  induction h with
  | slnil => exact Nat.le_refl _
  | cons x _ ih =>
    rw [szL_cons]
    omega
  | cons_cons x _ ih =>
    rw [szL_cons, szL_cons]
    omega
theorem szL_kids {zs : List Str} {n : Nat} {x : PyData} (h : Ex zs n x) : szL n (kids x) + 1 = (flatP n x).length := by
  cases n with
  | zero => cases h
  | succ n =>
    have : szL (n + 1) (kids x) = ((kids x).flatMap (flatP n)).length := by
      unfold szL
      rw [List.length_flatMap]
      congr 1
      refine List.map_congr_left fun y hy => ?_
      rw [flatP_stable (h.kids.1 y hy) (Nat.le_succ n)]
    rw [this]
    simp only [flatP, List.length_cons]
theorem szL_len {zs : List Str} {n : Nat} {l : List PyData} (h : ∀ x, x ∈ l → Ex zs n x) : l.length ≤ szL n l := by
  induction l with
  | nil => exact Nat.zero_le _
  | cons x l ih =>
    have h1 := szL_kids (h x List.mem_cons_self)
    have h2 := ih fun y hy => h y (List.mem_cons_of_mem _ hy)
    rw [szL_cons, List.length_cons]
    omega
theorem dpAll_split {K : PySem.W.Frag} {H : Hp} : ∀ {a b : List V} {ds : List PyData}, DpAll K H (a ++ b) ds → ∃ d1 d2, ds = d1 ++ d2 ∧ DpAll K H a d1 ∧ DpAll K H b d2
  | [], b, ds, h => ⟨[], ds, rfl, .nil, h⟩
  | v :: a, b, ds, h => by
    cases h with
    | cons h1 h2 =>
    obtain ⟨d1, d2, rfl, g1, g2⟩ := dpAll_split h2
    exact ⟨_ :: d1, d2, rfl, .cons h1 g1, g2⟩
theorem dpAll_last {K : PySem.W.Frag} {H : Hp} {us : List V} {xs : List PyData} (h : DpAll K H us xs) (hne : us ≠ []) : ∃ y d xs', xs = xs' ++ [d] ∧ us[us.length - 1]? = some y ∧ DpAll K H us.dropLast xs' ∧ Dp K H y d := by
  have e := List.dropLast_concat_getLast hne
  rw [← e] at h
  obtain ⟨d1, d2, rfl, g1, g2⟩ := dpAll_split h
  cases g2 with
  | cons g3 g4 =>
  cases g4
  refine ⟨us.getLast hne, _, d1, rfl, ?_, g1, g3⟩
  rw [← List.getLast?_eq_getElem?, List.getLast?_eq_getLast hne]
section
variable {P : Program} {w : World} {K : PySem.W.Frag} {mg : Str → Option Value} {base : Heap}
abbrev s_contained_free : Stmt := topS 5
theorem sc_contained_free : FnScope ["expression"] ["expression"] (defScope s_contained_free) := ⟨rfl, rfl, rfl, by decide +kernel, rfl, by decide +kernel, by decide +kernel⟩
def sp_contained_free (K : PySem.W.Frag) : Sp := fun vs H Q _ => ∃ (v : V) (x : PyData) (zs : List Str) (n : Nat), vs = [v] ∧ Dp K H v x ∧ Ex zs (n + 1) x ∧ ∀ H' p us, Same H H' → H p = none → H' p = some (.lst us) → DpAll K H' us (kidsF x) → Q (.ref p) H'
theorem ok_contained_free {f fc : Addr} {fd fdc : FuncData} {k : Nat} (F : Fun K "contained_free" "contained_free" s_contained_free f fd) (Gc : FnOk P w K mg base CX0 k fc fdc ["expression", "wanted"] (sp_contained_of K)) (gc : mg "contained_of" = some (.ref fc)) (Kc : PySem.W.keepIn K (.ref fc) = true) (bc : Binds K fdc ["expression", "wanted"] []) :
    FnOk P w K mg base CX0 (k + 1) f fd ["expression"] (sp_contained_free K) := by
  have nd := sc_contained_free.nd
  refine F.ok sc_contained_free (fun vs H Q E h => ?_) (fun cdv A outer s H vs Q E hr h => ?_)
  · obtain ⟨v, x, zs, n, rfl, _⟩ := h
    rfl
  obtain ⟨v, x, zs, n, rfl, hd, he, q⟩ := h
  refine ⟨_, (pss_one (ps_ret (pe_call Gc hr (by rfl) gc Kc bc .nil pass0 (pa_cons (pv 0) (pa_cons (pe_tup (pa_cons pe_str pa_nil)) pa_nil))))), ?_⟩
  obtain ⟨wd, fs, rest, rfl, ht, hfit⟩ := he.form
  have hk := kidsF_of (rest := rest) ht
  have hkl := (kidsF_sub (.tuple (.str wd :: rest))).length_le
  have hkl2 := he.kids.2
  have hfl := he.flat
  cases hd with
  | tup hS hA =>
  rename_i a vs
  refine ⟨.ref a, rfl, Nat.le_trans (show 1 ≤ 2 by decide) le2, fun t nt => ?_⟩
  have st := same_upd (o := .tup [.str "free"]) nt
  refine ⟨a, t, wd, fs, W1, rest, rfl, dp_keep (KeepT.of st) _ _ hfl (.tup hS hA), ht, hfit, ?_, ?_, .inl (.inl upd_same), fun H' p us s1 np hp hu => ?_⟩
  · rw [flatD, flatDs, Bool.and_eq_true] at hfl
    exact hfl.2
  · rw [← hk]
    omega
  · rw [← hk] at hu
    exact q H' p us (st.trans s1) (st.free np) hp hu
end
end K6

namespace K6
open PySem PySem.Spec PyProof.Rows L2 GR WX TX
section
variable {P : Program} {w : World} {K : PySem.W.Frag} {mg : Str → Option Value} {base : Heap}
abbrev s_has_free_key : Stmt := topS 14
theorem sc_has_free_key : FnScope ["expression", "todo", "part"] ["expression"] (defScope s_has_free_key) := ⟨rfl, rfl, rfl, by decide +kernel, rfl, by decide +kernel, by decide +kernel⟩
/-- what is still to do: the list at td -/
def FInv (K : PySem.W.Frag) (zs : List Str) (n : Nat) (x : PyData) (v : V) (td : Addr) (H0 : Hp) (m : Nat) (σ : L2.St) (H : Hp) : Prop :=
  ∃ (z : Option V) (us : List V) (xs : List PyData), σ = [some v, some (.ref td), z] ∧ H td = some (.lst us) ∧ DpAll K H us xs ∧ (∀ y, y ∈ xs → Ex zs n y) ∧ m = szL n xs ∧ m ≤ 2100000 ∧ freeKey n x = xs.any (freeKey n) ∧ (∀ b o, b ≠ td → H0 b = some o → H b = some o)
theorem ok_has_free_key {f fc : Addr} {fd fdc : FuncData} {k : Nat} (F : Fun K "has_free_key" "has_free_key" s_has_free_key f fd) (Gc : FnOk P w K mg base CX0 k fc fdc ["expression"] (sp_contained_free K)) (gc : mg "contained_free" = some (.ref fc)) (Kc : PySem.W.keepIn K (.ref fc) = true) (bc : Binds K fdc ["expression"] []) :
    FnOk P w K mg base CX0 (k + 1) f fd ["expression"] (sp_test K freeKey) := by
  have nd := sc_has_free_key.nd
  refine F.ok sc_has_free_key (fun vs H Q E h => ?_) (fun cdv A outer s H vs Q E hr h => ?_)
  · obtain ⟨v, x, zs, n, rfl, _⟩ := h
    rfl
  obtain ⟨v, x, zs, n, rfl, hd, he, hb, hn, h60, hz, q⟩ := h
  refine ⟨_, (pss_cons (ps_set (i := 1) nd rfl (.inl rfl) (pe_lst (pa_cons (pv 0) pa_nil)))
      (pss_cons (ps_while PassesOwn.never (pt_truth (pv 1) (fun _ => rfl))
      (pss_cons (ps_set (i := 2) nd rfl (.inl rfl) (pe_bm0 PySem.F.plainAttrs_list PySem.F.slot_list_pop PySem.F.type_list_pop mt_pop (pv 1)))
        (pss_cons (ps_if (pt_cmpR op_eq (pe_ix ix_tup (pv 2) pe_int (fun _ _ => rfl)) pe_str (nomark _))
        (pss_one (ps_ret pe_bl))
        pss_nil)
        (pss_one (ps_expr (pe_bm PySem.F.plainAttrs_list PySem.F.slot_list_extend PySem.F.type_list_extend mt_extend (pv 1) (pa_cons (pe_call Gc hr (by rfl) gc Kc bc .nil pass0 (pa_cons (pv 2) pa_nil)) pa_nil)))))))
      (pss_one (ps_ret pe_bl)))), ?_⟩
  refine ⟨v, rfl, small_le (show 1 ≤ 1000 by decide), fun td ntd => ?_⟩
  have sl := same_upd (o := .lst [v]) ntd
  have hsz : szL n [x] ≤ 2100000 := by
    have := flatP_len he
    rw [szL_cons]
    show _ + 0 ≤ _
    omega
  refine ⟨FInv K zs n x v td H, ⟨szL n [x], none, [v], [x], rfl, upd_same, .cons (he.kept (KeepT.of sl) hd) .nil, ?_, rfl, hsz, ?_, fun b o _ e => sl _ _ e⟩, ?_⟩
  · intro y hy
    rw [List.mem_singleton.mp hy]
    exact he
  · rw [List.any_cons, List.any_nil, Bool.or_false]
  · rintro m σ H' ⟨z, us, xs, rfl, hu, hA, hE, rfl, hm, hf, kk⟩
    have lu := dpAll_len hA
    have fin : ∀ H2, (∀ b o, b ≠ td → H' b = some o → H2 b = some o) → Same H H2 := fun H2 s2 b o e => s2 _ _ (ne_of_none e ntd) (kk _ _ (ne_of_none e ntd) e)
    refine ⟨.ref td, rfl, !us.isEmpty, .inl ⟨us, .inl (.inl hu), rfl⟩, ?_⟩
    cases hus : us with
    | nil =>
      subst hus
      cases hA
      rw [List.any_nil] at hf
      refine iteF ?_
      have := q H' (fin H' fun b o _ e => e)
      rw [hf] at this
      exact this
    | cons u0 ur =>
      have hne : us ≠ [] := by
        rw [hus]
        exact List.cons_ne_nil _ _
      rw [← hus]
      have full : (!us.isEmpty) = true := by
        rw [hus]
        rfl
      rw [full]
      obtain ⟨y, d, xs', rfl, hy, hA', hyd⟩ := dpAll_last hA hne
      have ed := hE d (List.mem_append_right _ (List.mem_singleton.mpr rfl))
      have hE' : ∀ y, y ∈ xs' → Ex zs n y := fun y hy => hE y (List.mem_append_left _ hy)
      obtain ⟨n', rfl⟩ : ∃ n', n = n' + 1 := by
        cases n with
        | zero => cases ed
        | succ n' => exact ⟨n', rfl⟩
      have hsd := szL_kids ed
      have hs1 : szL (n' + 1) (xs' ++ [d]) = szL (n' + 1) xs' + (flatP (n' + 1) d).length := by
        rw [szL_append, szL_cons]
        rfl
      have hsub := szL_sub (n := n' + 1) (kidsF_sub d)
      have hlx := szL_len hE'
      have hlk : (kidsF d).length ≤ szL (n' + 1) (kidsF d) := szL_len fun y hy => (ed.kidsF y hy).mono (Nat.le_succ n')
      refine iteT ⟨fun σ' H'' => ∃ m', m' < szL (n' + 1) (xs' ++ [d]) ∧ FInv K zs (n' + 1) x v td H m' σ' H'', fun σ' H'' h => h, ?_⟩
      refine ⟨.ref td, rfl, .inl ⟨rfl, _, .inl (.inl hu)⟩, td, us, y, rfl, rfl, hu, hy, ?_⟩
      have k1 : KeepT H' (upd H' td (.lst us.dropLast)) := KeepT.lst hu
      have hu1 : upd H' td (.lst us.dropLast) td = some (.lst us.dropLast) := upd_same
      have keep1 : ∀ b o, b ≠ td → H' b = some o → upd H' td (.lst us.dropLast) b = some o := fun b o hb e => by
        rw [upd_ne hb]
        exact e
      have fx' := flat_all hE'
      have hA1 := dp_keepAll k1 _ _ fx' hA'
      have hyd1 := ed.kept k1 hyd
      revert k1 hu1 keep1 hA1 hyd1
      generalize upd H' td (.lst us.dropLast) = H1
      intro k1 hu1 keep1 hA1 hyd1
      obtain ⟨wd, fs, rest, hdd, hft, hff⟩ := ed.form
      have hhead : headW d = wd := by
        rw [hdd]
        rfl
      have hyd2 := hyd1
      rw [hdd] at hyd2
      cases hyd2 with
      | tup hS hB =>
      cases hB with
      | cons hw hB =>
      cases hw
      rename_i a vs
      have hfd : freeKey (n' + 1) d = (decide (wd = "key") || (kidsF d).any (freeKey n')) := by
        simp only [freeKey, hhead]
      have hany : (kidsF d).any (freeKey n') = (kidsF d).any (freeKey (n' + 1)) := any_congr fun y hy => (free_stable (ed.kidsF y hy) (Nat.le_succ n')).symm
      rw [List.any_append, List.any_cons, List.any_nil, Bool.or_false, hfd] at hf
      refine ⟨.ref a, rfl, a, _, 0, .str wd, rfl, rfl, hS, at0, rfl, _, rfl, ite2 (fun e1 => ?_) (fun e1 => ?_)⟩
      · have e1 : wd = "key" := by simpa using e1
        have := q H1 (fin H1 keep1)
        rw [hf, decide_eq_true e1, Bool.true_or, Bool.or_true] at this
        exact this
      · have e1 : wd ≠ "key" := fun z => e1 (by simpa using z)
        rw [decide_eq_false e1, Bool.false_or, hany, ← List.any_append] at hf
        refine ⟨.ref td, rfl, .inl ⟨rfl, _, .inl (.inl hu1)⟩, .ref a, rfl, .ref a, d, zs, n', rfl, hyd1, ed, fun H2 p us2 s2 np hp hu2 => ?_⟩
        have htd2 := s2 _ _ hu1
        have l1 := dpAll_len hA1
        have l2 := dpAll_len hu2
        have k2 : KeepT H2 (upd H2 td (.lst (us.dropLast ++ us2))) := KeepT.lst htd2
        refine ⟨td, p, us.dropLast, us2, rfl, rfl, htd2, hp, ?_, szL (n' + 1) (xs' ++ kidsF d), ?_, some (.ref a), us.dropLast ++ us2, xs' ++ kidsF d, rfl, upd_same, ?_, ?_, rfl, ?_, hf, fun b o hb e => ?_⟩
        · rw [l1, l2, sizeLine_eq]
          omega
        · rw [szL_append]
          omega
        · exact dpAll_append (dp_keepAll ((KeepT.of s2).trans k2) _ _ fx' hA1) (dp_keepAll k2 _ _ (flat_all ed.kidsF) hu2)
        · intro y hy
          rcases List.mem_append.mp hy with hy | hy
          · exact hE' y hy
          · exact (ed.kidsF y hy).mono (Nat.le_succ n')
        · rw [szL_append]
          omega
        · rw [upd_ne hb]
          exact s2 _ _ (keep1 _ _ hb (kk _ _ hb e))
end
end K6

namespace K6
open PySem PySem.Spec PyProof.Rows L2 GR WX TX
def closedE (n : Nat) (x : PyData) : Bool := (vars (lvls n [x])).isEmpty && !freeKey n x
section
variable {P : Program} {w : World} {K : PySem.W.Frag} {mg : Str → Option Value} {base : Heap}
abbrev s_is_closed : Stmt := topS 15
theorem sc_is_closed : FnScope ["expression"] ["expression"] (defScope s_is_closed) := ⟨rfl, rfl, rfl, by decide +kernel, rfl, by decide +kernel, by decide +kernel⟩
theorem ok_is_closed {f fc ff : Addr} {fd fdc fdf : FuncData} {k : Nat} (F : Fun K "is_closed" "is_closed" s_is_closed f fd) (Gc : FnOk P w K mg base CX0 k fc fdc ["expression"] (sp_variables_of K)) (gc : mg "variables_of" = some (.ref fc)) (Kc : PySem.W.keepIn K (.ref fc) = true) (bc : Binds K fdc ["expression"] [])
    (Gf : FnOk P w K mg base CX0 k ff fdf ["expression"] (sp_test K freeKey)) (gf : mg "has_free_key" = some (.ref ff)) (Kf : PySem.W.keepIn K (.ref ff) = true) (bf : Binds K fdf ["expression"] []) : FnOk P w K mg base CX0 (k + 1) f fd ["expression"] (sp_test K closedE) := by
  have nd := sc_is_closed.nd
  refine F.ok sc_is_closed (fun vs H Q E h => ?_) (fun cdv A outer s H vs Q E hr h => ?_)
  · obtain ⟨v, x, zs, n, rfl, _⟩ := h
    rfl
  obtain ⟨v, x, zs, n, rfl, hd, he, hb, hn, h60, hz, q⟩ := h
  refine ⟨_, (pss_one (ps_ret (pe_and (pe_notT (pe_call Gc hr (by rfl) gc Kc bc .nil pass0 (pa_cons (pv 0) pa_nil))) (pe_one (pe_not (pe_call Gf hr (by rfl) gf Kf bf .nil pass0 (pa_cons (pv 0) pa_nil))))))), ?_⟩
  refine ⟨v, rfl, v, x, zs, n, rfl, hd, he, hb, h60, fun H1 p ys s1 np hp hnd hst hm => ⟨!(ys.map V.str).isEmpty, .inr (.inl ⟨_, .inl (.inl hp), rfl⟩), _, rfl, ?_⟩⟩
  have ev : (!(!(ys.map V.str).isEmpty)) = (vars (lvls n [x])).isEmpty := by
    rw [Bool.not_not]
    cases hv : vars (lvls n [x]) with
    | nil =>
      rw [hv] at hm
      cases ys with
      | nil => rfl
      | cons y ys => exact absurd ((hm y).mp List.mem_cons_self) (List.not_mem_nil)
    | cons z zs' =>
      rw [hv] at hm
      cases ys with
      | nil => exact absurd ((hm z).mpr List.mem_cons_self) (List.not_mem_nil)
      | cons y ys => rfl
  rw [ev]
  cases hc : (vars (lvls n [x])).isEmpty with
  | false =>
    have := q H1 s1
    unfold closedE at this
    rw [hc] at this
    exact iteF this
  | true =>
    refine iteT ⟨v, rfl, v, x, zs, n, rfl, he.kept (KeepT.of s1) hd, he, hb, hn, h60, hz, fun H2 s2 => ⟨_, rfl, ?_⟩⟩
    have := q H2 (s1.trans s2)
    unfold closedE at this
    rw [hc, Bool.true_and] at this
    exact this
end
end K6

namespace K6
open PySem PySem.Spec PyProof.Rows L2 GR WX TX RZ
/-- one field filled anew from the parts left -/
def refill1 (f : Str) (d : PyData) (qs : List PyData) : PyData := if f = "extra" then .tuple (qs.take (items d).length) else if f = "free" then qs.headD d else d
/-- how many parts a field takes -/
def takes (f : Str) (d : PyData) : Nat := (pick1 W1 f d).length
def refill : List Str → List PyData → List PyData → List PyData
  | f :: fs, d :: ds, qs => refill1 f d qs :: refill fs ds (qs.drop (takes f d))
  | _, _, _ => []
theorem refill_take : ∀ {fs : List Str} {ds : List PyData} (i : Nat) {f : Str} {d : PyData} (qs : List PyData), fs[i]? = some f → ds[i]? = some d →
    refill (fs.take (i + 1)) (ds.take (i + 1)) qs = refill (fs.take i) (ds.take i) qs ++ [refill1 f d (qs.drop (pick W1 (fs.take i) (ds.take i)).length)]
  | f0 :: fs, d0 :: ds, 0, f, d, qs, hf, hd => by
    cases hf
    cases hd
    simp only [List.take_succ_cons, List.take_zero, refill, pick, List.length_nil, List.drop_zero, List.nil_append]
  | f0 :: fs, d0 :: ds, i + 1, f, d, qs, hf, hd => by
    rw [List.getElem?_cons_succ] at hf hd
    have := refill_take i (qs.drop (takes f0 d0)) hf hd
    have e : pick W1 (f0 :: fs.take i) (d0 :: ds.take i) = pick1 W1 f0 d0 ++ pick W1 (fs.take i) (ds.take i) := rfl
    rw [List.take_succ_cons, List.take_succ_cons, refill, this, List.take_succ_cons, List.take_succ_cons, refill, e, List.length_append, ← List.drop_drop]
    rfl
  | [], _, _, _, _, _, hf, _ => by simp at hf
  | _ :: _, [], _, _, _, _, _, hd => by simp at hd
theorem dpAll_drop {K : PySem.W.Frag} {H : Hp} : ∀ {vs : List V} {ds : List PyData} (n : Nat), DpAll K H vs ds → DpAll K H (vs.drop n) (ds.drop n)
  | _, _, 0, h => by
    rw [List.drop_zero, List.drop_zero]
    exact h
  | _, _, n + 1, .cons _ h => by
    rw [List.drop_succ_cons, List.drop_succ_cons]
    exact dpAll_drop n h
  | _, _, n + 1, .nil => by
    rw [List.drop_nil, List.drop_nil]
    exact .nil
theorem dpAll_take {K : PySem.W.Frag} {H : Hp} : ∀ {vs : List V} {ds : List PyData} (n : Nat), DpAll K H vs ds → DpAll K H (vs.take n) (ds.take n)
  | _, _, 0, h => by
    rw [List.take_zero, List.take_zero]
    exact .nil
  | _, _, n + 1, .cons g h => by
    rw [List.take_succ_cons, List.take_succ_cons]
    exact .cons g (dpAll_take n h)
  | _, _, n + 1, .nil => by
    rw [List.take_nil, List.take_nil]
    exact .nil
theorem flatDs_drop {ds : List PyData} (i : Nat) (h : flatDs ds = true) : flatDs (ds.drop i) = true := by
  induction ds generalizing i with
  | nil =>
    rw [List.drop_nil]
    exact h
  | cons d ds ih =>
    cases i with
    | zero => exact h
    | succ i =>
      rw [flatDs, Bool.and_eq_true] at h
      rw [List.drop_succ_cons]
      exact ih i h.2
theorem flat_refill1 {f : Str} {d : PyData} {qs : List PyData} (hd : flatD d = true) (hq : flatDs qs = true) : flatD (refill1 f d qs) = true := by
  unfold refill1
  split
  · rw [flatD]
    exact flatDs_take _ hq
  · split
    · cases qs with
      | nil => exact hd
      | cons q qs =>
        rw [flatDs, Bool.and_eq_true] at hq
        exact hq.1
    · exact hd
theorem flat_refill : ∀ {fs : List Str} {ds qs : List PyData}, flatDs ds = true → flatDs qs = true → flatDs (refill fs ds qs) = true
  | f :: fs, d :: ds, qs, h, g => by
    rw [flatDs, Bool.and_eq_true] at h
    rw [refill, flatDs, flat_refill1 h.1 g, flat_refill h.2 (flatDs_drop _ g)]
    rfl
  | [], _, _, _, _ => by simp only [refill, flatDs]
  | _ :: _, [], _, _, _ => by simp only [refill, flatDs]
theorem cut_nat {xs : List V} {a b : Nat} (h1 : a ≤ b) (h2 : b ≤ xs.length) : cutV xs (some (a : Int)) (some (b : Int)) = (xs.drop a).take (b - a) := by
  unfold cutV
  rw [HT.sIx_nat, HT.sIx_nat, show min a xs.length = a by omega, show min b xs.length = b by omega]
end K6

/-! A list's tail deleted: del xs[lo:]. -/
namespace WX
open PySem PySem.Spec PyProof.Rows L2
section
variable {prog : Program} {w : World} {A : Around} {E : Value → Shared → Prop} {s : Shared}
/-- where xs[lo:] begins -/
def cutAt (n : Nat) (lo : Int) : Nat := (max 0 (min (if lo < 0 then lo + n else lo) (n : Int))).toNat
theorem tail_go (p : Value × Nat → Bool) (a : Nat) : ∀ (xs : List Value) (i : Nat), (∀ x k, k < i + xs.length → p (x, k) = decide (a ≤ k)) → ((xs.zipIdx i).filterMap fun x => if p x = true then none else some x.1) = xs.take (a - i)
  | [], i, _ => by simp
  | x :: xs, i, h => by
    have h1 := h x i (by rw [List.length_cons]; omega)
    have ih := tail_go p a xs (i + 1) fun y k hk => h y k (by rw [List.length_cons]; omega)
    rw [List.zipIdx_cons, List.filterMap_cons]
    simp only [h1]
    by_cases c : a ≤ i
    · simp only [decide_eq_true c, if_true]
      rw [ih, show a - (i + 1) = 0 by omega, show a - i = 0 by omega, List.take_zero, List.take_zero]
    · simp only [decide_eq_false c, Bool.false_eq_true, if_false]
      rw [ih, show a - i = (a - (i + 1)) + 1 by omega, List.take_succ_cons]
theorem del_tail {l sl : Addr} {items : List Value} {n : Nat} {vl vu : Value} {lo : Int} {Q : Unit → Shared → Prop} (e : s.heap.get? l = some { cls := .type "list", data := .seq items.toArray n }) (hs : s.heap.IsSliceOf sl vl vu .none) (pl : IsPart vl (some lo)) (pu : IsPart vu none)
    (hsz : items.length ≤ sizeLine) (h : ∀ f : Array Value → Array Value, f items.toArray = (items.take (cutAt items.length lo)).toArray → Q () { s with heap := s.heap.update l (Obj.mapSeq f) }) :
    wpAny (model prog w) A (delItem (.ref l) (.ref sl)) Q E s := by
  have hl : s.heap.IsList l items.toArray := PySem.IsL.isList e
  obtain ⟨os, hos, hcs, hds⟩ := id hs
  have hTs : s.TypeIs (.ref sl) "slice" := ⟨os, hos, hcs⟩
  have hstep : ¬ ((rawPart none == rawInt 0) = true) := Bool.false_ne_true
  refine wpAny_delItem_slot hl.typeIs (by decide) F.slot_list_delitem (wpAny_call_entry F.slot_list_delitem hl.typeIs F.entry_list_delitem ?_ (F.args_list_delitem_2 _ _))
  show wpAny _ _ (Builtin.List.listSubscript? (.ref sl) >>= _) _ _ s
  apply wpAny_bind
  unfold Builtin.List.listSubscript?
  apply wpAny_bind
  refine wpAny_specialOf hTs slice_no_index ?_
  simp only [Option.isNone_none, if_true]
  apply wpAny_pure
  show wpAny _ _ (typeOf (.ref sl) >>= _) _ _ s
  apply wpAny_bind
  refine wpAny_typeOf hTs ?_
  rw [if_neg (by decide)]
  rw [listSliceParts_eq]
  refine wpAny_bind (wpAny_bind (wpAny_field hos hds (x := .none) rfl (wpAny_bind (wpAny_listPart .none ?_))))
  rw [if_neg hstep]
  refine wpAny_bind (wpAny_field hos hds (x := vl) rfl (wpAny_bind (wpAny_listPart pl ?_)))
  refine wpAny_bind (wpAny_field hos hds (x := vu) rfl (wpAny_bind (wpAny_listPart pu (wpAny_pure ?_))))
  apply wpAny_bind (m := Builtin.List.listItems (.ref l))
  unfold Builtin.List.listItems
  refine wpAny_bind (wpAny_seqItems e rfl (wpAny_pure ?_))
  apply wpAny_bind
  refine wpAny_of_eq (sliceIndices_raw (some lo) none none items.toArray.size (by simp)) ?_
  apply wpAny_bind
  apply wpAny_rule
  have cutE : (sliceBounds (some lo) none none items.toArray.size).1 = (cutAt items.length lo : Int) := by
    show max 0 (min (if lo < 0 then lo + (items.toArray.size : Int) else lo) (items.toArray.size : Int)) = _
    unfold cutAt
    rw [List.size_toArray]
    omega
  have stopE : (sliceBounds (some lo) none none items.toArray.size).2.1 = (items.length : Int) := by
    show (items.toArray.size : Int) = _
    rw [List.size_toArray]
  have key : ∀ p : Value × Nat → Bool, (∀ x k, k < items.length → p (x, k) = decide (cutAt items.length lo ≤ k)) → ((items.toArray.toList.zipIdx.filterMap fun x => if p x = true then none else some x.1).toArray : Array Value) = (items.take (cutAt items.length lo)).toArray := fun p hp => by
    rw [show items.toArray.toList = items from rfl, tail_go p (cutAt items.length lo) items 0 (fun x k hk => hp x k (by omega)), Nat.sub_zero]
  have out : ∀ (x : Value) (k : Nat), k < items.length → (if (1 : Int) > 0 then decide ((sliceBounds (some lo) none none items.toArray.size).1 ≤ (k : Int)) && decide ((k : Int) < (sliceBounds (some lo) none none items.toArray.size).2.1) && (((k : Int) - (sliceBounds (some lo) none none items.toArray.size).1) % 1 == 0) else false) = decide (cutAt items.length lo ≤ k) := fun x k hk => by
    rw [if_pos (by decide), cutE, stopE, Int.emod_one]
    have h1 : decide ((k : Int) < (items.length : Int)) = true := decide_eq_true (by omega)
    rw [h1, Bool.and_true]
    by_cases c : cutAt items.length lo ≤ k
    · rw [decide_eq_true (show (cutAt items.length lo : Int) ≤ (k : Int) by omega), decide_eq_true c]
      rfl
    · rw [decide_eq_false (show ¬ (cutAt items.length lo : Int) ≤ (k : Int) by omega), decide_eq_false c]
      rfl
  apply wpAny_bind
  show wpAny _ _ (updateSeq l _) _ _ s
  refine wpAny_updateSeq (hz := by rw [List.size_toArray]; exact hsz) (_hz' := ?z) e rfl ?_
  case z =>
    refine Nat.le_trans (Nat.le_of_eq (congrArg Array.size (key _ fun x k hk => out x k hk))) ?_
    rw [List.size_toArray, List.length_take]
    omega
  apply wpAny_bind
  refine wpAny_letGo ?_
  exact wpAny_pure ⟨.none, rfl, h _ (key _ fun x k hk => out x k hk)⟩
end
end WX

namespace WX
open PySem PySem.Spec PyProof.Rows L2
section
variable {X : Cx}
/-- del xs[lo:] -/
def tDelT (to : TE) (tl : TO) : TS := fun D σ H => to σ H fun x H1 => tl σ H1 fun lo H2 => ∃ (l : Addr) (xs : List V) (i : Int), x = .ref l ∧ lo = some i ∧ H2 l = some (.lst xs) ∧ D.nx σ (upd H2 l (.lst (xs.take (cutAt xs.length i))))
theorem vals_take {xs : List V} {us : List Value} (r : Vals xs us) (n : Nat) : Vals (xs.take n) (us.take n) := by
  induction r generalizing n with
  | nil => simp only [List.take_nil]; exact .nil
  | cons h _ ih =>
    cases n with
    | zero => simp only [List.take_zero]; exact .nil
    | succ n =>
      simp only [List.take_succ_cons]
      exact .cons h (ih n)
theorem ps_delT {o : Expr} {lo : Option Expr} {to : TE} {tl : TO} {p2 tpos pos : Pos} (ho : PE X o to) (hl : PO X lo tl) : PS X (.Delete [.Subscript o (.Slice lo none none p2) tpos] pos) (tDelT to tl) := by
  refine ⟨fun pins s σ H D I h => ?_⟩
  refine wpAny_Delete (wpAny_deleteEach_cons (wpAny_delete_Subscript (thn (ho.run pins s σ H _ I h) fun u s1 ⟨x, H1, I1, rx, q1⟩ => ?_)))
  refine wpAny_Slice (thn (hl.run pins s1 σ H1 _ I1 q1) fun vl s2 ⟨l, H2, I2, pl, q2⟩ => ?_)
  rw [evalPart_none]
  refine wpAny_pure ?_
  refine wpAny_pure ?_
  obtain ⟨a, xs, i, rfl, rfl, hH, q⟩ := q2
  cases (show u = Value.ref a from rx)
  have I4 : Inv X pins σ H2 { s2 with heap := s2.heap.push { cls := .type "slice", data := .fields #[vl, .none, .none] } } := I2.kept (t' := s2.toks) fun b ob q => Heap.get?_push_of_some _ q
  obtain ⟨z, its, n, r, hlen, e⟩ := I4.lstM hH
  refine del_tail e (Heap.IsSliceOf.new ..) pl .none (by omega) fun f hf => ?_
  refine wpAny_deleteEach_nil ⟨σ, _, I4.lset (its' := its.take (cutAt its.length i)) hH e hf (by rw [← hlen]; exact vals_take r _) ?_, q⟩
  rw [List.length_take]
  omega
end
end WX

namespace K6
open PySem PySem.Spec PyProof.Rows L2 GR WX TX RZ
def refillX : PyData → List PyData → PyData
  | .tuple (.str w :: rest), qs => .tuple (.str w :: refill (fieldsOf w) rest qs)
  | x, _ => x
/-- the expression with o in place of each free key -/
def kd (o : PyData) : Nat → PyData → PyData
  | 0, x => x
  | n + 1, x => if headW x = "key" then o else if (kidsF x).isEmpty then x else refillX x ((kidsF x).map (kd o n))
theorem kd_stable {zs : List Str} {o : PyData} : ∀ {m k : Nat} {x : PyData}, Ex zs m x → m ≤ k → kd o k x = kd o m x
  | 0, _, _, h, _ => by cases h
  | m + 1, 0, _, _, hk => by omega
  | m + 1, k + 1, x, h, hk => by
    have e : (kidsF x).map (kd o k) = (kidsF x).map (kd o m) := List.map_congr_left fun y hy => kd_stable (h.kidsF y hy) (by omega : m ≤ k)
    simp only [kd, e]
abbrev Task := PyData × Bool
/-- the machine: tasks, the top first; what is done -/
def run (o : PyData) (n : Nat) : List Task → List PyData → List PyData
  | [], ds => ds
  | (y, false) :: ts, ds => run o n ts (ds ++ [kd o n y])
  | (y, true) :: ts, ds => run o n ts (ds.take (ds.length - (kidsF y).length) ++ [refillX y (ds.drop (ds.length - (kidsF y).length))])
theorem run_false (o : PyData) (n : Nat) : ∀ (l : List PyData) (ts : List Task) (ds : List PyData), run o n (l.map (fun y => (y, false)) ++ ts) ds = run o n ts (ds ++ l.map (kd o n))
  | [], ts, ds => by simp
  | y :: l, ts, ds => by
    rw [List.map_cons, List.cons_append, run, run_false o n l ts, List.map_cons, List.append_assoc]
    rfl
/-- the tasks can be done with so many done -/
def Can : List Task → Nat → Prop
  | [], _ => True
  | (_, false) :: ts, k => Can ts (k + 1)
  | (y, true) :: ts, k => headW y ≠ "key" ∧ kidsF y ≠ [] ∧ (kidsF y).length ≤ k ∧ Can ts (k - (kidsF y).length + 1)
theorem can_false : ∀ (l : List PyData) (ts : List Task) (k : Nat), Can (l.map (fun y => (y, false)) ++ ts) k ↔ Can ts (k + l.length)
  | [], ts, k => by simp
  | y :: l, ts, k => by
    rw [List.map_cons, List.cons_append, Can, can_false l ts, List.length_cons]
    rw [show k + 1 + l.length = k + (l.length + 1) by omega]
def wgt (n : Nat) : Task → Nat
  | (y, false) => 2 * (flatP n y).length
  | (_, true) => 1
def wgtL (n : Nat) (ts : List Task) : Nat := (ts.map (wgt n)).sum
theorem wgtL_append (n : Nat) (a b : List Task) : wgtL n (a ++ b) = wgtL n a + wgtL n b := by
  unfold wgtL
  rw [List.map_append, List.sum_append]
theorem wgtL_false (n : Nat) : ∀ l : List PyData, wgtL n (l.map fun y => (y, false)) = 2 * szL n l
  | [] => rfl
  | y :: l => by
    have ih := wgtL_false n l
    rw [szL_cons]
    unfold wgtL at ih ⊢
    rw [List.map_cons, List.map_cons, List.sum_cons, ih, wgt]
    omega
theorem szL_perm {n : Nat} {a b : List PyData} (h : a.Perm b) : szL n a = szL n b := by
  unfold szL
  exact (h.map _).sum_nat
/-- a task as data -/
def taskD (t : Task) : PyData := .tuple [t.1, .bool t.2]
theorem flat_task {zs : List Str} {n : Nat} {t : Task} (h : Ex zs n t.1) : flatD (taskD t) = true := by
  unfold taskD
  simp only [flatD, flatDs, h.flat, Bool.and_self]
/-- one expression whose kids are done is done -/
theorem run_open (o : PyData) {zs : List Str} {n : Nat} {y : PyData} (h : Ex zs n y) (h1 : headW y ≠ "key") (h2 : kidsF y ≠ []) (ts : List Task) (ds : List PyData) :
    run o n ((kidsF y).map (fun z => (z, false)) ++ (y, true) :: ts) ds = run o n ((y, false) :: ts) ds := by
  cases n with
  | zero => cases h
  | succ n =>
  rw [run_false, run, run]
  have e : ((kidsF y).map (kd o (n + 1))).length = (kidsF y).length := List.length_map ..
  rw [List.length_append, e, show ds.length + (kidsF y).length - (kidsF y).length = ds.length by omega, List.take_left, List.drop_left]
  have e2 : kd o (n + 1) y = refillX y ((kidsF y).map (kd o (n + 1))) := by
    have e3 : (kidsF y).map (kd o (n + 1)) = (kidsF y).map (kd o n) := List.map_congr_left fun z hz => kd_stable (h.kidsF z hz) (Nat.le_succ n)
    rw [e3, kd, if_neg h1, if_neg]
    cases hk : kidsF y with
    | nil => exact absurd hk h2
    | cons a b => exact Bool.false_ne_true
  rw [e2]
end K6

set_option maxHeartbeats 400000
/-! CL: defs that are handed a function made by another def (its captured cells stand in frames that run), and call it. -/
namespace CLo
open PySem PySem.Spec PyProof.Rows L2 GR NdefX LamX
/-- a def by its promise sp i, i of what holds at its entry -/
structure FnP {ι : Type} (P : Program) (w : World) (K : PySem.W.Frag) (mg : Str → Option Value) (base : Heap) (k : Nat) (f : Addr) (fd : FuncData) (ps : List Str) (pre : ι → Around → List Env → Shared → Hp → Prop) (sp : ι → Sp) : Prop where
  size : ∀ i vs H Q E, sp i vs H Q E → vs.length = ps.length
  go : ∀ (i : ι) (A : Around) (outer : List Env) (s : Shared) (H : Hp) (args : Args) (us : List Value) (vs : List V) (Q : VK) (E : XK),
    pre i A outer s H → Room k A → Env0 P w K mg base A outer s H → BindsTo s fd args (ps.zip us) → Vals vs us → sp i vs H Q E → codeAny (model P w) A (.call (.ref f) args) (CR CX0 outer P w H s Q E) s
section
variable {ι : Type} {P : Program} {w : World} {K : PySem.W.Frag} {mg : Str → Option Value} {base : Heap} {pre : ι → Around → List Env → Shared → Hp → Prop} {sp : ι → Sp}
theorem FnP.mono {j k : Nat} {f : Addr} {fd : FuncData} {ps : List Str} (F : FnP P w K mg base j f fd ps pre sp) (h : j ≤ k) : FnP P w K mg base k f fd ps pre sp :=
  ⟨F.size, fun i A outer s H args us vs Q E hp hr => F.go i A outer s H args us vs Q E hp (hr.mono h)⟩
theorem ok_p {x qual : Str} {st : Stmt} {f : Addr} {fd : FuncData} {N ps : List Str} {k : Nat} (F : Fun K x qual st f fd) (S : FnScope N ps (defScope st)) (size : ∀ i vs H Q E, sp i vs H Q E → vs.length = ps.length)
    (body : ∀ (i : ι) (cdv : Value) (A : Around) (outer : List Env) (s : Shared) (H : Hp) (vs : List V) (Q : VK) (E : XK), pre i A outer s H → K.lookup f = K.lookup f → Room k (A.deeper (envOfC qual (defScope st) s.heap.objs.size f cdv)) → sp i vs H Q E →
      ∃ t, PSs (cxOf CX0 P w K mg base N qual (defScope st) f cdv A outer s H E).nox (defBody st) t ∧ t { nx := fun _ H' => Q .non H', rt := Q } (start N vs) H) : FnP P w K mg base (k + 1) f fd ps pre sp := by
  obtain ⟨oc, od, kV, doc, pm, an, cdv, ct, osl, rfl, lk, hcd⟩ := F.ex
  refine ⟨size, fun i A outer s H args us vs Q E hp room e0 bnd rel hsp => ?_⟩
  have inK : K.In s.heap := e0.mod.kin.keeps fun b o q => (e0.bs b o q).1
  obtain ⟨t, ht, hq⟩ := body i cdv A outer s H vs Q E hp rfl (room.deeper _) hsp
  refine codeAny_call_function room.depth (inK f _ lk) rfl S.co S.gen rfl (PySem.W.codeRec_of inK hcd) (bnd _ _ _ _ (wpAny_newFunctionEnv_cells S.kind (fun ⟨n, v⟩ hy => ?_) fun env he s1 inC => ?_))
  · exact (S.par n (List.of_mem_zip hy).1).elim .inl fun q => .inr ⟨q, PySem.W.cellsFrom_some _ _ _ (.inl q)⟩
  · cases he
    refine ⟨(e0.mod.nolimit.keeps fun b o q => (e0.bs b o q).1).keeps inC.toInCall.keep, codeAny_func ?_⟩
    have I0 := inv_start (CX := CX0) (P := P) (w := w) (K := K) (mg := mg) (base := base) (E := E) S room.hd e0 (size i _ _ _ _ hsp) rel inC
    refine wpAny_mono (ht.nox.run [] s1 (start N vs) H _ I0 hq) ?_ (fun _ _ z => z)
    rintro (_ | _ | _ | u) s' hs
    · obtain ⟨σ', H', J, q⟩ := hs
      exact ⟨.non, H', J.os, J.bare, J.base, J.hok, rfl, q⟩
    · obtain ⟨_, _, _, q⟩ := hs
      exact q.elim
    · obtain ⟨_, _, _, q⟩ := hs
      exact q.elim
    · obtain ⟨v, σ', H', J, rv, q⟩ := hs
      exact ⟨v, H', J.os, J.bare, J.base, J.hok, rv, q⟩
end
/-- a cell of the running def is no frame's own object -/
theorem cell_out {X : Cx} {pins : List (Addr × Obj)} {σ : L2.St} {H : Hp} {s : Shared} (I : Inv X pins σ H s) {y : Str} {c : Addr} (e : X.env.cells.lookup y = some c) (hf : X.fn y = true) : c ∉ frs X.stack := fun hc => by
  rcases List.mem_cons.mp (I.stkSub c hc) with z | z
  · exact I.cne y c e z
  · obtain ⟨_, o, ho, _⟩ := I.ok.funs.mem z
    exact absurd (Nat.lt_of_lt_of_le (Heap.lt_size ho) (I.ok.cab y c hf e)) (Nat.lt_irrefl _)
/-- the function F stands at g, its captured cells hold ws -/
structure ClP (F : NF) (fr : List Str) (g : Addr) (ws : List (Option V)) (outer : List Env) (s : Shared) (H : Hp) : Prop where
  fn : H g = some (FnO g F)
  code : H F.c = some (CodeO F.c F.qual)
  cells : CellsAt F.cl fr ws s.heap H
  out : ∀ y c, F.cl.lookup y = some c → c ∉ frs outer
abbrev CI := NF × Addr × List (Option V)
def preC (Γ : NF → Prop) (fr : List Str) : CI → Around → List Env → Shared → Hp → Prop := fun i _ outer s H => Γ i.1 ∧ ClP i.1 fr i.2.1 i.2.2 outer s H
section
variable {X : Cx} {k : Nat} {f : Addr} {fd : FuncData} {ps : List Str} {x : Str} {p pos : Pos} {e : Expr} {es : List Expr} {t : TA}
/-- f(.., g, ..), g a function made here: its cells are this frame's -/
def tCallC (mk : Addr → NF) (js : List Nat) (sp : CI → Sp) (t : TA) : TE := fun σ H Q => t σ H fun vs H1 => ∃ g c', H1 g = some (FnO g (mk c')) ∧ H1 (mk c').c = some (CodeO (mk c').c (mk c').qual) ∧ sp (mk c', g, js.map (slotAt σ)) vs H1 Q E0
theorem pe_callC {Γ : NF → Prop} {mk : Addr → NF} {cl : List (Str × Addr)} {fr : List Str} {js : List Nat} {sp : CI → Sp} (G : FnP X.prog X.w X.K X.mg X.base k f fd ps (preC Γ fr) sp) (hΓ : ∀ c', Γ (mk c')) (hcl : ∀ c', (mk c').cl = cl) (cp : X.Ok → Caps X cl fr js) (hfn : ∀ y, X.fn y = true) (hr : Room k X.A) (gx : Gl X x) (hm : X.mg x = some (.ref f)) (hk : PySem.W.keepIn X.K (.ref f) = true) (hb : Binds X.K fd ps [])
    (ha : PA X (e :: es) t) (hdb : (x == ("__debug__" : Str)) = false := by decide) (he : starEach (e :: es) X.env = (false, eval e X.env) :: starEach es X.env := by rfl) (hpl : (backTo pos (starEach es X.env)).any (·.1) = false := by rfl) :
    PE X (.Call (.Name x p) (e :: es) [] pos) (tCallC mk js sp t) := by
  refine ⟨fun pins s σ H Q I h => ?_⟩
  refine wpAny_Call_Name_kw (ld_glob I gx hm (PySem.W.callWith_K (h₀ := X.base) I.ok.mod.kin hk (thn (ha.run pos pins s σ H _ I h) ?_) he hpl) hdb)
  rintro us s1 ⟨vs, H1, I1, r, g, c', hg, hgc, q⟩
  refine ⟨I1.kIn, ?_⟩
  have hl : us.length = ps.length := by
    rw [← r.length]
    exact G.size _ _ _ _ _ q
  have hB := hb s1 us I1.kIn (by simpa using hl)
  rw [List.append_nil] at hB
  have C := cp I1.ok
  have hC : CellsAt (mk c').cl fr (js.map (slotAt σ)) s1.heap H1 := by
    rw [hcl c']
    exact cells_of I1 C
  have hO : ∀ y c, (mk c').cl.lookup y = some c → c ∉ frs X.stack := fun y c z => by
    rw [hcl c'] at z
    exact cell_out I1 (C.sub y c z) (hfn y)
  refine wpAny_call (codeAny_mono (G.go (mk c', g, js.map (slotAt σ)) X.A X.stack s1 H1 ⟨us, []⟩ us vs Q E0 ⟨hΓ c', hg, hgc, hC, hO⟩ hr I1.env0 hB r q) ?_)
  rintro (er | (_ | _ | _ | u)) s2 hq
  · exact hq.elim
  · exact hq.elim
  · exact hq.elim
  · exact hq.elim
  · exact I1.after hq
/-- g(..), g handed in -/
def tCallF (F : NF) (i : Nat) (ws : List (Option V)) (sp : Addr → List (Option V) → Sp) (t : TA) : TE := fun σ H Q => ∃ g, σ[i]? = some (some (.ref g)) ∧ H g = some (FnO g F) ∧ t σ H fun vs H1 => H1 g = some (FnO g F) ∧ H1 F.c = some (CodeO F.c F.qual) ∧ sp g ws vs H1 Q E0
theorem pe_callF {F : NF} {fr : List Str} {i : Nat} {ws : List (Option V)} {sp : Addr → List (Option V) → Sp} {j : Nat} (M : ∀ g, NOk X.prog X.w X.K X.mg X.base CX0 j g F ps fr (sp g)) (C : CellsAt F.cl fr ws X.s_0.heap X.H_0) (out : ∀ y c, F.cl.lookup y = some c → c ∉ X.fs) (hx : X.ex = []) (hr : Room k X.A) (hj : j ≤ k)
    (hN : X.N[i]? = some x) (hv : Vis X.env.scope x) (ha : PA X (e :: es) t)
    (hd : (x == ("__debug__" : Str)) = false := by decide) (hcd : (x == ("__classdict__" : Str)) = false := by decide) (he : starEach (e :: es) X.env = (false, eval e X.env) :: starEach es X.env := by rfl) (hpl : (backTo pos (starEach es X.env)).any (·.1) = false := by rfl) :
    PE X (.Call (.Name x p) (e :: es) [] pos) (tCallF F i ws sp t) := by
  refine ⟨fun pins s σ H Q I ⟨g, hs, hf, ht⟩ => ?_⟩
  refine wpAny_Call_Name_kw (thn ((pe_var (pos := p) hN hv hd hcd).run pins s σ H (fun v H1 => v = .ref g ∧ H1 = H) I ⟨.ref g, hs, rfl, rfl⟩) fun u s1 ⟨v, H1, I1, r1, ev, eH⟩ => ?_)
  subst ev
  rw [eH] at I1
  obtain rfl : u = Value.ref g := r1
  refine PySem.W.callWith_F (first := []) (fnAt_of I1 hf) (thn (ha.run pos pins s1 σ H _ I1 ht) fun us s2 ⟨vs, H2, I2, r, h1, hc, q⟩ => ⟨fnAt_of I2 h1, ?_⟩) he hpl
  show wpAny _ _ (call (.ref g) us) _ _ _
  refine wpAny_call (codeAny_mono ((M g).run X.A X.stack s2 H2 us vs ws Q E0 (hr.mono hj) I2.env0 h1 hc (C.later out (fun _ _ _ => by rw [hx]; simp) I2) r q) ?_)
  rintro (er | (_ | _ | _ | u)) s3 hq
  · exact hq.elim
  · exact hq.elim
  · exact hq.elim
  · exact hq.elim
  · exact I2.after hq
end
/-! ### a def whose code object is known -/
structure FunC (K : PySem.W.Frag) (x qual : Str) (st : Stmt) (f : Addr) (fd : FuncData) (c : Addr) : Prop where
  ex : ∃ (oc : Value) (od : Option Addr) (kV doc pm : Value) (an : Option Addr) (ct : Value) (osl : Array (Option Value)),
    fd = PySem.W.fnOf x qual (defArgs st) (defBody st) (defScope st) .none kV doc pm an (.ref c) ct ∧ K.lookup f = some ⟨oc, od, .func fd, osl⟩ ∧ PySem.W.codeIn K (.ref c) qual = true
  kp : PySem.W.keepIn K (.ref f) = true
section
variable {P : Program} {w : World} {K : PySem.W.Frag} {mg : Str → Option Value} {base : Heap} {x qual : Str} {st : Stmt} {f c : Addr} {fd : FuncData}
theorem FunC.fun (F : FunC K x qual st f fd c) : Fun K x qual st f fd := by
  obtain ⟨oc, od, kV, doc, pm, an, ct, osl, e, lk, hcd⟩ := F.ex
  exact ⟨⟨oc, od, kV, doc, pm, an, .ref c, ct, osl, e, lk, hcd⟩, F.kp⟩
theorem FunC.ok {N ps : List Str} {k : Nat} {sp : Sp} (F : FunC K x qual st f fd c) (S : FnScope N ps (defScope st)) (len : ∀ vs H Q E, sp vs H Q E → vs.length = ps.length)
    (hbody : ∀ (A : Around) (outer : List Env) (s : Shared) (H : Hp) (vs : List V) (Q : VK) (E : XK), Room k (A.deeper (envOfC qual (defScope st) s.heap.objs.size f (.ref c))) → sp vs H Q E →
      ∃ t, PSs (cxOf CX0 P w K mg base N qual (defScope st) f (.ref c) A outer s H E).nox (defBody st) t ∧ t { nx := fun _ H' => Q .non H', rt := Q } (start N vs) H) : FnOk P w K mg base CX0 (k + 1) f fd ps sp := by
  obtain ⟨oc, od, kV, doc, pm, an, ct, osl, rfl, lk, hcd⟩ := F.ex
  refine fn_of lk hcd S len fun A outer s H vs Q E hr hsp => ?_
  obtain ⟨t, h, q⟩ := hbody A outer s H vs Q E hr hsp
  exact ⟨t, h.nox, q⟩
end
end CLo

set_option maxHeartbeats 1000000
namespace K6.Fo
open PySem PySem.Spec PyProof.Rows L2 GR WX TX RZ
/-- one field filled anew from the parts left -/
def refill1 (W : List Str) (f : Str) (d : PyData) (qs : List PyData) : PyData := if f = "extra" then .tuple (qs.take (items d).length) else if f ∈ W then qs.headD d else d
/-- how many parts a field takes -/
def takes (W : List Str) (f : Str) (d : PyData) : Nat := (pick1 W f d).length
def refill (W : List Str) : List Str → List PyData → List PyData → List PyData
  | f :: fs, d :: ds, qs => refill1 W f d qs :: refill W fs ds (qs.drop (takes W f d))
  | _, _, _ => []
theorem refill_take (W : List Str) : ∀ {fs : List Str} {ds : List PyData} (i : Nat) {f : Str} {d : PyData} (qs : List PyData), fs[i]? = some f → ds[i]? = some d →
    refill W (fs.take (i + 1)) (ds.take (i + 1)) qs = refill W (fs.take i) (ds.take i) qs ++ [refill1 W f d (qs.drop (pick W (fs.take i) (ds.take i)).length)]
  | f0 :: fs, d0 :: ds, 0, f, d, qs, hf, hd => by
    cases hf
    cases hd
    simp only [List.take_succ_cons, List.take_zero, refill, pick, List.length_nil, List.drop_zero, List.nil_append]
  | f0 :: fs, d0 :: ds, i + 1, f, d, qs, hf, hd => by
    rw [List.getElem?_cons_succ] at hf hd
    have := refill_take W i (qs.drop (takes W f0 d0)) hf hd
    have e : pick W (f0 :: fs.take i) (d0 :: ds.take i) = pick1 W f0 d0 ++ pick W (fs.take i) (ds.take i) := rfl
    rw [List.take_succ_cons, List.take_succ_cons, refill, this, List.take_succ_cons, List.take_succ_cons, refill, e, List.length_append, ← List.drop_drop]
    rfl
  | [], _, _, _, _, _, hf, _ => by simp at hf
  | _ :: _, [], _, _, _, _, _, hd => by simp at hd
theorem dpAll_drop {K : PySem.W.Frag} {H : Hp} : ∀ {vs : List V} {ds : List PyData} (n : Nat), DpAll K H vs ds → DpAll K H (vs.drop n) (ds.drop n)
  | _, _, 0, h => by
    rw [List.drop_zero, List.drop_zero]
    exact h
  | _, _, n + 1, .cons _ h => by
    rw [List.drop_succ_cons, List.drop_succ_cons]
    exact dpAll_drop n h
  | _, _, n + 1, .nil => by
    rw [List.drop_nil, List.drop_nil]
    exact .nil
theorem dpAll_take {K : PySem.W.Frag} {H : Hp} : ∀ {vs : List V} {ds : List PyData} (n : Nat), DpAll K H vs ds → DpAll K H (vs.take n) (ds.take n)
  | _, _, 0, h => by
    rw [List.take_zero, List.take_zero]
    exact .nil
  | _, _, n + 1, .cons g h => by
    rw [List.take_succ_cons, List.take_succ_cons]
    exact .cons g (dpAll_take n h)
  | _, _, n + 1, .nil => by
    rw [List.take_nil, List.take_nil]
    exact .nil
theorem flatDs_drop {ds : List PyData} (i : Nat) (h : flatDs ds = true) : flatDs (ds.drop i) = true := by
  induction ds generalizing i with
  | nil =>
    rw [List.drop_nil]
    exact h
  | cons d ds ih =>
    cases i with
    | zero => exact h
    | succ i =>
      rw [flatDs, Bool.and_eq_true] at h
      rw [List.drop_succ_cons]
      exact ih i h.2
theorem flat_refill1 {W : List Str} {f : Str} {d : PyData} {qs : List PyData} (hd : flatD d = true) (hq : flatDs qs = true) : flatD (refill1 W f d qs) = true := by
  unfold refill1
  split
  · rw [flatD]
    exact flatDs_take _ hq
  · split
    · cases qs with
      | nil => exact hd
      | cons q qs =>
        rw [flatDs, Bool.and_eq_true] at hq
        exact hq.1
    · exact hd
theorem flat_refill {W : List Str} : ∀ {fs : List Str} {ds qs : List PyData}, flatDs ds = true → flatDs qs = true → flatDs (refill W fs ds qs) = true
  | f :: fs, d :: ds, qs, h, g => by
    rw [flatDs, Bool.and_eq_true] at h
    rw [refill, flatDs, flat_refill1 h.1 g, flat_refill h.2 (flatDs_drop _ g)]
    rfl
  | [], _, _, _, _ => by simp only [refill, flatDs]
  | _ :: _, [], _, _, _ => by simp only [refill, flatDs]
theorem cut_nat {xs : List V} {a b : Nat} (h1 : a ≤ b) (h2 : b ≤ xs.length) : cutV xs (some (a : Int)) (some (b : Int)) = (xs.drop a).take (b - a) := by
  unfold cutV
  rw [HT.sIx_nat, HT.sIx_nat, show min a xs.length = a by omega, show min b xs.length = b by omega]
section
variable {P : Program} {w : World} {K : PySem.W.Frag} {mg : Str → Option Value} {base : Heap}
abbrev s_with_contained_of : Stmt := topS 7
theorem sc_with_contained_of : FnScope ["expression", "wanted", "parts", "found", "used", "kind", "part"] ["expression", "wanted", "parts"] (defScope s_with_contained_of) := ⟨rfl, rfl, rfl, by decide +kernel, rfl, by decide +kernel, by decide +kernel⟩
def sp_with (K : PySem.W.Frag) : Sp := fun vs H Q _ => ∃ (a wA pA : Addr) (wd : Str) (fs W : List Str) (rest ps : List PyData) (ups : List V), vs = [.ref a, .ref wA, .ref pA] ∧ SqT K H wA (W.map V.str) ∧ Dp K H (.ref a) (.tuple (.str wd :: rest)) ∧ (wd, fs) ∈ table ∧ Fits fs rest ∧ flatDs rest = true ∧ SqL K H pA ups ∧ DpAll K H ups ps ∧ flatDs ps = true ∧
  ps.length = (pick W fs rest).length ∧ ps.length ≤ 1000 ∧ ∀ H' p, Same H H' → Dp K H' (.ref p) (.tuple (.str wd :: refill W fs rest ps)) → Q (.ref p) H'
theorem ok_with {f fA : Addr} {fd : FuncData} {k : Nat} (F : Fun K "with_contained_of" "with_contained_of" s_with_contained_of f fd) (mFIELDS : mg "FIELDS" = some (.ref fA)) (T : Flds K w fA) (mzip : mg "zip" = none) (mtuple : mg "tuple" = none) (mlen : mg "len" = none) :
    FnOk P w K mg base CX0 (k + 1) f fd ["expression", "wanted", "parts"] (sp_with K) := by
  have nd := sc_with_contained_of.nd
  refine F.ok sc_with_contained_of (fun vs H Q E h => ?_) (fun cdv A outer s H vs Q E hr h => ?_)
  · obtain ⟨a, wA, pA, wd, fs, W, rest, ps, ups, rfl, _⟩ := h
    rfl
  obtain ⟨a, wA, pA, wd, fs, W, rest, ps, ups, rfl, hWt, hd, ht, hfit, hflat, hP, hPA, hPF, hlen, hl1000, q⟩ := h
  refine ⟨_, (pss_cons (ps_set (i := 3) nd rfl (.inl rfl) (pe_lst (pa_cons (pe_ix ix_tup (pv 0) pe_int (fun _ _ => rfl)) pa_nil)))
      (pss_cons (ps_set (i := 4) nd rfl (.inl rfl) pe_int)
      (pss_cons (ps_for PassesOwn.never rfl (pi_zipA (by rfl) mzip (pa_cons (pe_ix ix_kdict (pe_glob rfl mFIELDS (v := .ref fA) rfl) (pe_ix ix_tup (pv 0) pe_int (fun _ _ => rfl)) (fun _ _ => rfl)) (pa_cons (pe_slice L2.sl_tup (pv 0) (po_some pe_int) po_none) pa_nil))) (pg_tup rfl (pgs_cons (pg_name (i := 5) nd rfl (Or.inl rfl)) (pgs_cons (pg_name (i := 6) nd rfl (Or.inl rfl)) pgs_nil)))
      (pss_one (ps_if (pt_cmpR op_eq (pv 5) pe_str (nomark _))
        (pss_cons (ps_expr (pe_bm PySem.F.plainAttrs_list PySem.F.slot_list_append PySem.F.type_list_append mt_append (pv 3) (pa_cons (pe_callTy call_tuple_of (by rfl) mtuple boot_tuple (pa_cons (pe_slice sl_list (pv 2) (po_some (pv 4)) (po_some (pe_op op_add (pv 4) (pe_callB call_len_seq (by rfl) mlen PySem.boot_len (pa_cons (pv 6) pa_nil))))) pa_nil)) pa_nil)))
          (pss_one (ps_aug (i := 4) nd rfl (.inl rfl) (pe_callB call_len_seq (by rfl) mlen PySem.boot_len (pa_cons (pv 6) pa_nil)) ip_add)))
        (pss_one (ps_if (pt_cmpR op_in_seq (pv 5) (pv 1) (by rfl))
          (pss_cons (ps_expr (pe_bm PySem.F.plainAttrs_list PySem.F.slot_list_append PySem.F.type_list_append mt_append (pv 3) (pa_cons (pe_ix ix_list (pv 2) (pv 4) (fun _ _ => rfl)) pa_nil)))
            (pss_one (ps_aug (i := 4) nd rfl (.inl rfl) pe_int ip_add)))
          (pss_one (ps_expr (pe_bm PySem.F.plainAttrs_list PySem.F.slot_list_append PySem.F.type_list_append mt_append (pv 3) (pa_cons (pv 6) pa_nil)))))))))
      (pss_one (ps_ret (pe_callTy call_tuple_of (by rfl) mtuple boot_tuple (pa_cons (pv 3) pa_nil))))))), ?_⟩
  cases hd with
  | tup hS hA =>
  cases hA with
  | cons hw hA =>
  cases hw
  rename_i vs0
  obtain ⟨fp, hK, hF⟩ := T wd fs ht
  have hl0 := dpAll_len hA
  have lP := dpAll_len hPA
  refine ⟨.ref a, rfl, a, _, 0, .str wd, rfl, rfl, hS, at0, small_le (show 1 ≤ 1000 by decide), fun fo nfo => ?_⟩
  have sf := same_upd (o := .lst [.str wd]) nfo
  refine ⟨.ref a, rfl, a, _, 0, .str wd, rfl, rfl, (KeepT.of sf).seqt hS, at0, fA, wd, .ref fp, rfl, rfl, hK, .ref a, rfl, 1, rfl, a, _, rfl, (KeepT.of sf).seqt hS, ?_, fun c nc => ?_⟩
  · rw [List.length_cons]
    rintro ⟨e, _⟩
    have : HT.sIx (vs0.length + 1) 0 (some 1) = min 1 (vs0.length + 1) := HT.sIx_nat _ _ 1
    rw [this] at e
    omega
  have hcut : cutV (.str wd :: vs0) (some 1) none = vs0 := by
    unfold cutV
    rw [HT.sIx_none, show HT.sIx (V.str wd :: vs0).length 0 (some 1) = min 1 (V.str wd :: vs0).length from HT.sIx_nat _ _ 1, List.length_cons, show min 1 (vs0.length + 1) = 1 by omega, List.drop_succ_cons, List.drop_zero, show vs0.length + 1 - 1 = vs0.length by omega, List.take_length]
  rw [hcut]
  have sc := same_upd (o := .tup vs0) nc
  have hc1 : upd (upd H fo (.lst [.str wd])) c (.tup vs0) c = some (.tup vs0) := upd_same
  have hf1 := sc _ _ (show upd H fo (.lst [.str wd]) fo = _ from upd_same)
  have s2 := sf.trans sc
  revert hc1 hf1 s2
  generalize upd (upd H fo (.lst [.str wd])) c (.tup vs0) = H1
  intro hc1 hf1 s2
  have hl : (fs.map V.str).length = vs0.length := by rw [List.length_map, hfit.len, hl0]
  refine ⟨fp, c, fs.map V.str, vs0, rfl, .inr ⟨hF H1, .inl (.inl hc1), ?_⟩⟩
  refine for_zipT hl (fun i σ H' => ∃ (y4 y5 : Option V) (us : List V), σ = [some (.ref a), some (.ref wA), some (.ref pA), some (.ref fo), some (.int ((pick W (fs.take i) (rest.take i)).length : Int)), y4, y5] ∧ H' fo = some (.lst us) ∧ DpAll K H' us (.str wd :: refill W (fs.take i) (rest.take i) ps) ∧ us.length = i + 1 ∧ (∀ b o, b ≠ fo → H1 b = some o → H' b = some o)) ?_ ?_ ?_ ?_
  · refine ⟨none, none, [.str wd], rfl, hf1, ?_, rfl, fun b o _ e => e⟩
    simp only [List.take_zero, refill]
    exact .cons (.str wd) .nil
  · rintro i σ H' ⟨y4, y5, us, rfl, hu, hdp, hi, kk⟩
    exact ⟨hF H', .inl (.inl (kk _ _ (ne_of hc1 hf1 (fun z => by cases z)) hc1))⟩
  · rintro i x y t σ H' hx hy ⟨y4, y5, us, rfl, hu, hdp, hi, kk⟩ nt
    rw [List.getElem?_map] at hx
    obtain ⟨fi, hfi, rfl⟩ : ∃ fi, fs[i]? = some fi ∧ x = .str fi := by
      cases e : fs[i]? with
      | none =>
        rw [e] at hx
        cases hx
      | some fi =>
        rw [e] at hx
        cases hx
        exact ⟨fi, rfl, rfl⟩
    obtain ⟨di, hdi, hyd⟩ := dpAll_at hA hy
    have kH : Same H H' := fun b o e => kk b o (ne_of_none e nfo) (s2 _ _ e)
    have st := same_upd (o := .tup [.str fi, y]) nt
    have sH := kH.trans st
    have fdi := flatDs_at hflat hdi
    have hyd2 := dp_keep (KeepT.of sH) _ _ fdi hyd
    have hu2 := st _ _ hu
    have hrt := refill_take W i ps hfi hdi
    have hpt : pick W (fs.take (i + 1)) (rest.take (i + 1)) = pick W (fs.take i) (rest.take i) ++ pick1 W fi di := pick_take W i hfi hdi
    have hpl := pick_len W (fs := fs) (ds := rest) (i + 1)
    rw [hpt, List.length_append, ← hlen] at hpl
    have hil : i < 1000 ∨ True := .inr trivial
    generalize hused : (pick W (fs.take i) (rest.take i)).length = used at hrt hpt hpl ⊢
    have fus : flatDs (.str wd :: refill W (fs.take i) (rest.take i) ps) = true := by
      rw [flatDs, flat_refill (flatDs_take i hflat) hPF]
      rfl
    have fr1 : flatD (refill1 W fi di (ps.drop used)) = true := flat_refill1 fdi (flatDs_drop _ hPF)
    have hifs : i < fs.length := (List.getElem?_eq_some_iff.mp hfi).1
    have hfs6 : fs.length ≤ 6 := (show ∀ p, p ∈ table → p.2.length ≤ 6 by decide) (wd, fs) ht
    have turn : ∀ (Hx : Hp) (vn : V), Same H' Hx → Dp K Hx vn (refill1 W fi di (ps.drop used)) → ∃ (z4 z5 : Option V) (us' : List V), [some (.ref a), some (.ref wA), some (.ref pA), some (.ref fo), some (.int ((used + (pick1 W fi di).length : Nat) : Int)), some (.str fi), some y] = [some (.ref a), some (.ref wA), some (.ref pA), some (.ref fo), some (.int ((pick W (fs.take (i + 1)) (rest.take (i + 1))).length : Int)), z4, z5] ∧
        upd Hx fo (.lst (us ++ [vn])) fo = some (.lst us') ∧ DpAll K (upd Hx fo (.lst (us ++ [vn]))) us' (.str wd :: refill W (fs.take (i + 1)) (rest.take (i + 1)) ps) ∧ us'.length = i + 1 + 1 ∧ (∀ b o, b ≠ fo → H1 b = some o → upd Hx fo (.lst (us ++ [vn])) b = some o) := by
      intro Hx vn sx hv
      have k2 : KeepT Hx (upd Hx fo (.lst (us ++ [vn]))) := KeepT.lst (sx _ _ hu)
      refine ⟨some (.str fi), some y, us ++ [vn], ?_, upd_same, ?_, by rw [List.length_append, hi]; rfl, fun b o hb e => ?_⟩
      · rw [hpt, List.length_append, hused]
      · rw [hrt, ← List.cons_append]
        exact dpAll_append (dp_keepAll ((KeepT.of sx).trans k2) _ _ fus hdp) (.cons (dp_keep k2 _ _ fr1 hv) .nil)
      · rw [upd_ne hb]
        exact sx _ _ (kk b o hb e)
    refine ⟨t, [.str fi, y], rfl, .inl (.inl upd_same), rfl, _, _, rfl, _, _, rfl, rfl, ?_⟩
    refine ⟨.str fi, rfl, rfl, _, rfl, ite2 (fun e1 => ?_) (fun e1 => ?_)⟩
    · have e1 : fi = "extra" := by simpa using e1
      subst e1
      obtain ⟨xs, rfl⟩ := hfit.at' hfi hdi
      have hp1 : pick1 W "extra" (.tuple xs) = xs := by
        unfold pick1
        rw [if_pos rfl, items]
      have hr1 : refill1 W "extra" (.tuple xs) (ps.drop used) = .tuple ((ps.drop used).take xs.length) := by
        unfold refill1
        rw [if_pos rfl, items]
      rw [hp1] at hpl turn
      rw [hr1] at turn
      cases hyd2 with
      | tup hys hyA =>
      rename_i ya zs'
      have hz := dpAll_len hyA
      rw [← hz] at turn hpl
      have hcut2 : cutV ups (some (used : Int)) (some ((used : Int) + (zs'.length : Int))) = (ups.drop used).take zs'.length := by
        have := cut_nat (xs := ups) (a := used) (b := used + zs'.length) (by omega) (by omega)
        rw [show used + zs'.length - used = zs'.length by omega] at this
        exact this
      refine ⟨.ref fo, rfl, .inl ⟨rfl, _, .inl (.inl hu2)⟩, .ref pA, rfl, .int (used : Int), rfl, (used : Int), rfl, .int (used : Int), rfl, .ref ya, rfl, ya, zs', rfl, .inr hys, (used : Int), (zs'.length : Int), rfl, rfl, (used : Int) + (zs'.length : Int), rfl, pA, ups, rfl, sH.seq hP, fun p1 np1 => ?_⟩
      rw [hcut2]
      have sp1 := same_upd (o := .lst ((ups.drop used).take zs'.length)) np1
      refine ⟨p1, _, rfl, .inl ⟨.inl (.inl upd_same), fun p2 np2 => ?_⟩⟩
      have sp2 := same_upd (o := .tup ((ups.drop used).take zs'.length)) np2
      have s3 := st.trans (sp1.trans sp2)
      refine ⟨fo, _, _, rfl, rfl, s3 _ _ hu, small1000 (by omega), .int (used : Int), rfl, .ref ya, rfl, ya, zs', rfl, .inr ?_, (used : Int), (zs'.length : Int), rfl, rfl, ?_⟩
      · exact (((KeepT.of (sp1.trans sp2)).trans (KeepT.lst (s3 _ _ hu))).seqt hys)
      · have hdrop : DpAll K (upd (upd (upd H' t (.tup [.str "extra", .ref ya])) p1 (.lst ((ups.drop used).take zs'.length))) p2 (.tup ((ups.drop used).take zs'.length))) ((ups.drop used).take zs'.length) ((ps.drop used).take zs'.length) :=
          dp_keepAll ((KeepT.of sH).trans (KeepT.of (sp1.trans sp2))) _ _ (flatDs_take _ (flatDs_drop _ hPF)) (dpAll_take _ (dpAll_drop _ hPA))
        exact turn _ (.ref p2) s3 (.tup (.inl (.inl upd_same)) hdrop)
    · have e1 : fi ≠ "extra" := fun z => e1 (by simpa using z)
      refine ⟨.str fi, rfl, .ref wA, rfl, wA, W.map V.str, rfl, .inr ((KeepT.of sH).seqt hWt), rfl, flat_strs W, _, rfl, ?_⟩
      rw [wanted_in]
      refine ite2 (fun e2 => ?_) (fun e2 => ?_)
      · have e2 : fi ∈ W := by simpa using e2
        have hp1 : pick1 W fi di = [di] := by
          unfold pick1
          rw [if_neg e1, if_pos e2]
        rw [hp1] at hpl turn
        have hlt : used < ups.length := by
          rw [lP]
          simp only [List.length_singleton] at hpl
          omega
        have hget : ups[used]? = some ups[used] := List.getElem?_eq_getElem hlt
        obtain ⟨dq, hdq, hvq⟩ := dpAll_at hPA hget
        have hr1 : refill1 W fi di (ps.drop used) = dq := by
          unfold refill1
          rw [if_neg e1, if_pos e2]
          have : ps.drop used = dq :: ps.drop (used + 1) := by
            obtain ⟨h1, h2⟩ := List.getElem?_eq_some_iff.mp hdq
            rw [List.drop_eq_getElem_cons h1, h2]
          rw [this]
          rfl
        rw [hr1] at turn
        refine ⟨.ref fo, rfl, .inl ⟨rfl, _, .inl (.inl hu2)⟩, .ref pA, rfl, .int (used : Int), rfl, pA, ups, (used : Int), ups[used], rfl, rfl, sH.seq hP, atI_nat hget, fo, _, _, rfl, rfl, hu2, small1000 (by omega), .int (used : Int), rfl, (used : Int), 1, rfl, rfl, ?_⟩
        exact turn _ ups[used] st (dp_keep (KeepT.of sH) _ _ (flatDs_at hPF hdq) hvq)
      · have e2 : fi ∉ W := fun z => e2 (by simpa using z)
        have hp1 : pick1 W fi di = [] := by
          unfold pick1
          rw [if_neg e1, if_neg e2]
        have hr1 : refill1 W fi di (ps.drop used) = di := by
          unfold refill1
          rw [if_neg e1, if_neg e2]
        rw [hp1, hr1] at turn
        refine ⟨.ref fo, rfl, .inl ⟨rfl, _, .inl (.inl hu2)⟩, y, rfl, fo, _, _, rfl, rfl, hu2, small1000 (by omega), ?_⟩
        exact turn _ y st hyd2
  · rintro σ H' ⟨y4, y5, us, rfl, hu, hdp, hi, kk⟩
    have e1 : fs.take (fs.map V.str).length = fs := by rw [List.length_map, List.take_length]
    have e2 : rest.take (fs.map V.str).length = rest := by rw [List.length_map, hfit.len, List.take_length]
    rw [e1, e2] at hdp
    refine ⟨.ref fo, rfl, fo, us, rfl, .inl ⟨.inl (.inl hu), fun t nt => ?_⟩⟩
    have st := same_upd (o := .tup us) nt
    have kH : Same H H' := fun b o e => kk b o (ne_of_none e nfo) (s2 _ _ e)
    refine q _ _ (kH.trans st) (.tup (.inl (.inl upd_same)) (dp_keepAll (KeepT.of st) _ _ ?_ hdp))
    rw [flatDs, flat_refill hflat hPF]
    rfl
end
end K6.Fo

set_option maxHeartbeats 1000000
namespace K6.Fo
open PySem PySem.Spec PyProof.Rows L2 GR WX TX RZ
/-- what is contained, of the kinds W -/
def kidsW (W : List Str) : PyData → List PyData
  | .tuple (.str w :: rest) => pick W (fieldsOf w) rest
  | _ => []
theorem kidsW_of {W : List Str} {w : Str} {fs : List Str} {rest : List PyData} (ht : (w, fs) ∈ table) : kidsW W (.tuple (.str w :: rest)) = pick W fs rest := by
  show pick W (fieldsOf w) rest = _
  rw [show fieldsOf w = fs from fieldsOf_table (w, fs) ht]
theorem pick_subW {W : List Str} (hW : ∀ f, f ∈ W → f ∈ W2) : ∀ (fs : List Str) (ds : List PyData), (pick W fs ds).Sublist (pick W2 fs ds)
  | f :: fs, d :: ds => by
    simp only [pick]
    refine List.Sublist.append ?_ (pick_subW hW fs ds)
    by_cases h1 : f = "extra"
    · rw [if_pos h1, if_pos h1]
      exact List.Sublist.refl _
    · rw [if_neg h1, if_neg h1]
      by_cases h2 : f ∈ W
      · rw [if_pos h2, if_pos (hW f h2)]
        exact List.Sublist.refl _
      · rw [if_neg h2]
        exact List.nil_sublist _
  | [], _ => by simp only [pick]; exact List.Sublist.refl _
  | _ :: _, [] => by simp only [pick]; exact List.Sublist.refl _
theorem kidsW_sub {W : List Str} (hW : ∀ f, f ∈ W → f ∈ W2) (x : PyData) : (kidsW W x).Sublist (kids x) := by
  unfold kidsW kids
  split
  · exact pick_subW hW _ _
  · exact List.nil_sublist _
theorem _root_.K6.Ex.kidsW {W : List Str} (hW : ∀ f, f ∈ W → f ∈ W2) {zs : List Str} {n : Nat} {x : PyData} (h : Ex zs (n + 1) x) : ∀ y, y ∈ kidsW W x → Ex zs n y := fun y hy => h.kids.1 y ((kidsW_sub hW x).subset hy)
def refillX (W : List Str) : PyData → List PyData → PyData
  | .tuple (.str w :: rest), qs => .tuple (.str w :: refill W (fieldsOf w) rest qs)
  | x, _ => x
/-- folding -/
def foldE (W : List Str) (mk : PyData → List PyData → PyData) : Nat → PyData → PyData
  | 0, x => x
  | n + 1, x => mk x ((kidsW W x).map (foldE W mk n))
section
variable {W : List Str} {mk : PyData → List PyData → PyData} (hW : ∀ f, f ∈ W → f ∈ W2)
include hW in
theorem foldE_stable {zs : List Str} : ∀ {m k : Nat} {x : PyData}, Ex zs m x → m ≤ k → foldE W mk k x = foldE W mk m x
  | 0, _, _, h, _ => by cases h
  | m + 1, 0, _, _, hk => by omega
  | m + 1, k + 1, x, h, hk => by
    have e : (kidsW W x).map (foldE W mk k) = (kidsW W x).map (foldE W mk m) := List.map_congr_left fun y hy => foldE_stable (h.kidsW hW y hy) (by omega : m ≤ k)
    simp only [foldE, e]
end
abbrev Task := PyData × Bool
section
variable (W : List Str) (mk : PyData → List PyData → PyData)
/-- the machine: tasks, the top first; what is done -/
def run (n : Nat) : List Task → List PyData → List PyData
  | [], ds => ds
  | (y, false) :: ts, ds => run n ts (ds ++ [foldE W mk n y])
  | (y, true) :: ts, ds => run n ts (ds.take (ds.length - (kidsW W y).length) ++ [mk y (ds.drop (ds.length - (kidsW W y).length))])
theorem run_false (n : Nat) : ∀ (l : List PyData) (ts : List Task) (ds : List PyData), run W mk n (l.map (fun y => (y, false)) ++ ts) ds = run W mk n ts (ds ++ l.map (foldE W mk n))
  | [], ts, ds => by simp
  | y :: l, ts, ds => by
    rw [List.map_cons, List.cons_append, run, run_false n l ts, List.map_cons, List.append_assoc]
    rfl
/-- the tasks can be done with so many done -/
def Can : List Task → Nat → Prop
  | [], _ => True
  | (_, false) :: ts, k => Can ts (k + 1)
  | (y, true) :: ts, k => (kidsW W y).length ≤ k ∧ Can ts (k - (kidsW W y).length + 1)
theorem can_false : ∀ (l : List PyData) (ts : List Task) (k : Nat), Can W (l.map (fun y => (y, false)) ++ ts) k ↔ Can W ts (k + l.length)
  | [], ts, k => by simp
  | y :: l, ts, k => by
    rw [List.map_cons, List.cons_append, Can, can_false l ts, List.length_cons]
    rw [show k + 1 + l.length = k + (l.length + 1) by omega]
end
def wgt (n : Nat) : Task → Nat
  | (y, false) => 2 * (flatP n y).length
  | (_, true) => 1
def wgtL (n : Nat) (ts : List Task) : Nat := (ts.map (wgt n)).sum
theorem wgtL_append (n : Nat) (a b : List Task) : wgtL n (a ++ b) = wgtL n a + wgtL n b := by
  unfold wgtL
  rw [List.map_append, List.sum_append]
theorem wgtL_false (n : Nat) : ∀ l : List PyData, wgtL n (l.map fun y => (y, false)) = 2 * szL n l
  | [] => rfl
  | y :: l => by
    have ih := wgtL_false n l
    rw [szL_cons]
    unfold wgtL at ih ⊢
    rw [List.map_cons, List.map_cons, List.sum_cons, ih, wgt]
    omega
theorem szL_perm {n : Nat} {a b : List PyData} (h : a.Perm b) : szL n a = szL n b := by
  unfold szL
  exact (h.map _).sum_nat
/-- a task as data -/
def taskD (t : Task) : PyData := .tuple [t.1, .bool t.2]
theorem flat_task {zs : List Str} {n : Nat} {t : Task} (h : Ex zs n t.1) : flatD (taskD t) = true := by
  unfold taskD
  simp only [flatD, flatDs, h.flat, Bool.and_self]
/-- one expression whose kids are done is done -/
theorem run_open {W : List Str} {mk : PyData → List PyData → PyData} (hW : ∀ f, f ∈ W → f ∈ W2) {zs : List Str} {n : Nat} {y : PyData} (h : Ex zs n y) (ts : List Task) (ds : List PyData) :
    run W mk n ((kidsW W y).map (fun z => (z, false)) ++ (y, true) :: ts) ds = run W mk n ((y, false) :: ts) ds := by
  cases n with
  | zero => cases h
  | succ n =>
  rw [run_false, run, run]
  have e : ((kidsW W y).map (foldE W mk (n + 1))).length = (kidsW W y).length := List.length_map ..
  rw [List.length_append, e, show ds.length + (kidsW W y).length - (kidsW W y).length = ds.length by omega, List.take_left, List.drop_left]
  have e2 : foldE W mk (n + 1) y = mk y ((kidsW W y).map (foldE W mk (n + 1))) := by
    have e3 : (kidsW W y).map (foldE W mk (n + 1)) = (kidsW W y).map (foldE W mk n) := List.map_congr_left fun z hz => foldE_stable hW (h.kidsW hW z hz) (Nat.le_succ n)
    rw [e3, foldE]
  rw [e2]
/-- what is made of flat things is flat -/
theorem flat_fold {W : List Str} {mk : PyData → List PyData → PyData} (hW : ∀ f, f ∈ W → f ∈ W2) {zs : List Str} (hmk : ∀ n y qs, Ex zs n y → flatDs qs = true → flatD (mk y qs) = true) : ∀ {n : Nat} {x : PyData}, Ex zs n x → flatD (foldE W mk n x) = true
  | 0, _, h => by cases h
  | n + 1, x, h => by
    rw [foldE]
    exact hmk (n + 1) x _ h (flatDs_of fun d hd => by
      obtain ⟨y, hy, rfl⟩ := List.mem_map.mp hd
      exact flat_fold hW hmk (h.kidsW hW y hy))
theorem dpAll_rev {K : PySem.W.Frag} {H : Hp} : ∀ {vs : List V} {ds : List PyData}, DpAll K H vs ds → DpAll K H vs.reverse ds.reverse
  | _, _, .nil => .nil
  | _, _, .cons h g => by
    rw [List.reverse_cons, List.reverse_cons]
    exact dpAll_append (dpAll_rev g) (.cons h .nil)
theorem tasks_le {zs : List Str} {n : Nat} : ∀ {ts : List Task}, (∀ t, t ∈ ts → Ex zs n t.1) → ts.length ≤ wgtL n ts
  | [], _ => Nat.zero_le _
  | (y, b) :: ts, h => by
    have ih := tasks_le fun t ht => h t (List.mem_cons_of_mem _ ht)
    have h1 := szL_kids (h _ List.mem_cons_self)
    have h2 : 1 ≤ wgt n (y, b) := by
      cases b
      · show 1 ≤ 2 * (flatP n y).length
        have : (flatP n y).length = szL n (kids y) + 1 := h1.symm
        omega
      · exact Nat.le_refl 1
    unfold wgtL at ih ⊢
    rw [List.map_cons, List.sum_cons, List.length_cons]
    omega
theorem flat_refillX {W : List Str} {zs : List Str} {n : Nat} {y : PyData} {qs : List PyData} (h : Ex zs n y) (hq : flatDs qs = true) : flatD (refillX W y qs) = true := by
  obtain ⟨wd, fs, rest, rfl, _, _⟩ := h.form
  have hf := h.flat
  rw [flatD, flatDs, Bool.and_eq_true] at hf
  show flatD (.tuple (.str wd :: refill W (fieldsOf wd) rest _)) = true
  rw [flatD, flatDs, flat_refill hf.2 hq]
  rfl
end K6.Fo

namespace K6.Fo
open PySem PySem.Spec PyProof.Rows L2 GR WX TX RZ NdefX CLo
/-- what the function that is handed in promises -/
def sp_made (K : PySem.W.Frag) (W : List Str) (mk : PyData → List PyData → PyData) (Cap : List (Option V) → Hp → Prop) (ws : List (Option V)) : Sp := fun vs H Q _ => Cap ws H ∧ ∃ (v : V) (p : Addr) (y : PyData) (zs : List Str) (n : Nat) (qs : List PyData) (ups : List V), vs = [v, .ref p] ∧ Dp K H v y ∧ Ex zs n y ∧ SqL K H p ups ∧ DpAll K H ups qs ∧ flatDs qs = true ∧
  qs.length = (kidsW W y).length ∧ ∀ H' v', Same H H' → Dp K H' v' (mk y qs) → Q v' H'
/-- what a function handed in must be -/
structure MkOk (W : List Str) (mk : PyData → List PyData → PyData) (Cap : List (Option V) → Hp → Prop) : Prop where
  sub : ∀ f, f ∈ W → f ∈ W2
  flat : ∀ zs n y qs, Ex zs n y → flatDs qs = true → flatD (mk y qs) = true
  cap : ∀ ws H H', Same H H' → Cap ws H → Cap ws H'
def sp_folded (K : PySem.W.Frag) (W : List Str) (mk : PyData → List PyData → PyData) (Cap : List (Option V) → Hp → Prop) (i : CI) : Sp := fun vs H Q _ => ∃ (v : V) (wA : Addr) (x : PyData) (zs : List Str) (n : Nat), vs = [v, .ref wA, .ref i.2.1] ∧ Dp K H v x ∧ Ex zs n x ∧ SqT K H wA (W.map V.str) ∧ Cap i.2.2 H ∧ (flatP n x).length ≤ 2100000 ∧ ∀ H' v', Same H H' → Dp K H' v' (foldE W mk n x) → Q v' H'
abbrev s_folded : Stmt := topS 8
abbrev N_folded : List Str := ["expression", "wanted", "made", "done", "todo", "part", "is_ready", "inner", "start", "parts", "thing"]
theorem sc_folded : FnScope N_folded ["expression", "wanted", "made"] (defScope s_folded) := ⟨rfl, rfl, rfl, by decide +kernel, rfl, by decide +kernel, by decide +kernel⟩
theorem and_els {c b : Bool} {σ : L2.St} {A B : Prop} (h : (c && !b) = false) (hs : σ[6]? = some (some (V.bl b))) (x : B) : if c = true then (∃ v, σ[6]? = some (some v) ∧ ∃ d, v = V.bl d ∧ (if (!d) = true then A else B)) else (if false = true then A else B) := by
  cases c with
  | false => exact x
  | true =>
    refine ⟨_, hs, b, rfl, ?_⟩
    cases b with
    | true => exact x
    | false => cases h
theorem vis_made : Vis (defScope s_folded) "made" := Or.inl rfl
section
variable {P : Program} {w : World} {K : PySem.W.Frag} {mg : Str → Option Value} {base : Heap} {W : List Str} {mk : PyData → List PyData → PyData} {Cap : List (Option V) → Hp → Prop}
/-- before each turn -/
def KInv (K : PySem.W.Frag) (W : List Str) (mk : PyData → List PyData → PyData) (zs : List Str) (n : Nat) (x : PyData) (v : V) (wA g dn td : Addr) (H0 : Hp) (m : Nat) (σ : L2.St) (H : Hp) : Prop :=
  ∃ (z5 z6 z7 z8 z9 z10 : Option V) (us vs : List V) (ts : List Task) (ds : List PyData), σ = [some v, some (.ref wA), some (.ref g), some (.ref dn), some (.ref td), z5, z6, z7, z8, z9, z10] ∧ H dn = some (.lst vs) ∧ H td = some (.lst us) ∧ DpAll K H vs ds ∧ DpAll K H us (ts.map taskD) ∧ (∀ t, t ∈ ts → Ex zs n t.1) ∧ (∀ d, d ∈ ds → flatD d = true) ∧
    Can W ts.reverse ds.length ∧ run W mk n ts.reverse ds = [foldE W mk n x] ∧ m = wgtL n ts ∧ ds.length + m ≤ 4200000 ∧ (∀ b ob, b ≠ dn → b ≠ td → H0 b = some ob → H b = some ob)
theorem ok_folded {Γ : NF → Prop} {fr : List Str} {f fc : Addr} {fd fdc : FuncData} {j k : Nat} (F : Fun K "folded" "folded" s_folded f fd) (C : MkOk W mk Cap) (M : ∀ G, Γ G → ∀ g, NOk P w K mg base CX0 j g G ["part", "parts"] fr (sp_made K W mk Cap)) (hj : j ≤ k)
    (Gc : FnOk P w K mg base CX0 k fc fdc ["expression", "wanted"] (sp_contained_of K)) (gc : mg "contained_of" = some (.ref fc)) (Kc : PySem.W.keepIn K (.ref fc) = true) (bc : Binds K fdc ["expression", "wanted"] []) (mlen : mg "len" = none) :
    FnP P w K mg base (k + 1) f fd ["expression", "wanted", "made"] (preC Γ fr) (sp_folded K W mk Cap) := by
  have nd := sc_folded.nd
  refine ok_p F sc_folded (fun i vs H Q E h => ?_) (fun i cdv A outer s H vs Q E hpre _ hr h => ?_)
  · obtain ⟨v, wA, x, zs, n, rfl, _⟩ := h
    rfl
  obtain ⟨G, g, ws⟩ := i
  obtain ⟨hΓ, hgF, hgc, hgC, hgO⟩ := hpre
  obtain ⟨v, wA, x, zs, n, rfl, hd, he, hWt, hCap, hb, q⟩ := h
  refine ⟨_, (pss_cons (ps_set (i := 3) nd rfl (.inl rfl) (pe_lst pa_nil))
      (pss_cons (ps_set (i := 4) nd rfl (.inl rfl) (pe_lst (pa_cons (pe_tup (pa_cons (pv 0) (pa_cons pe_bl pa_nil))) pa_nil)))
      (pss_cons (ps_while PassesOwn.never (pt_truth (pv 4) (fun _ => rfl))
      (pss_cons (ps_asg (pe_bm0 PySem.F.plainAttrs_list PySem.F.slot_list_pop PySem.F.type_list_pop mt_pop (pv 4)) (pg_tup rfl (pgs_cons (pg_name (i := 5) nd rfl (Or.inl rfl)) (pgs_cons (pg_name (i := 6) nd rfl (Or.inl rfl)) pgs_nil))))
        (pss_cons (ps_set (i := 7) nd rfl (.inl rfl) (pe_call Gc hr (by rfl) gc Kc bc .nil pass0 (pa_cons (pv 5) (pa_cons (pv 1) pa_nil))))
        (pss_one (ps_if (PW.pt (pw_and (pt_truth (pv 7) (fun _ => rfl)) (pw_and1 (pt_not (pt_val (pv 6))))))
        (pss_cons (ps_expr (pe_bm PySem.F.plainAttrs_list PySem.F.slot_list_append PySem.F.type_list_append mt_append (pv 4) (pa_cons (pe_tup (pa_cons (pv 5) (pa_cons pe_bl pa_nil))) pa_nil)))
          (pss_one (ps_expr (pe_bm PySem.F.plainAttrs_list PySem.F.slot_list_extend PySem.F.type_list_extend mt_extend (pv 4) (pa_cons (pe_lc (own := [("thing", 10)]) rfl nd (pi_list (pe_revL (pv 7))) (blkOk_by (N := N_folded) (sc := defScope s_folded) (by decide +kernel)) (fun _ _ _ _ _ => (pg_name (i := 10) nd rfl (Or.inl rfl))) (fun _ _ _ _ _ => pts_nil) (fun _ _ _ _ _ => (pe_tup (pa_cons (pv 10) (pa_cons pe_bl pa_nil))))) pa_nil)))))
        (pss_cons (ps_set (i := 8) nd rfl (.inl rfl) (pe_op op_sub (pe_callB call_len_seq (by rfl) mlen PySem.boot_len (pa_cons (pv 3) pa_nil)) (pe_callB call_len_seq (by rfl) mlen PySem.boot_len (pa_cons (pv 7) pa_nil))))
          (pss_cons (ps_set (i := 9) nd rfl (.inl rfl) (pe_slice sl_list (pv 3) (po_some (pv 8)) po_none))
          (pss_cons (ps_delT (pv 3) (po_some (pv 8)))
          (pss_one (ps_expr (pe_bm PySem.F.plainAttrs_list PySem.F.slot_list_append PySem.F.type_list_append mt_append (pv 3) (pa_cons (pe_callF (i := 2) (sp := fun _ => sp_made K W mk Cap) (M G hΓ) hgC hgO rfl hr hj rfl vis_made (pa_cons (pv 5) (pa_cons (pv 9) pa_nil))) pa_nil))))))))))))
      (pss_one (ps_ret (pe_ix ix_list (pv 3) pe_int (fun _ _ => rfl))))))), ?_⟩
  refine ⟨Nat.zero_le _, fun dn ndn => ?_⟩
  have sd := same_upd (o := .lst []) ndn
  have hd0 : upd H dn (.lst []) dn = some (.lst []) := upd_same
  refine ⟨v, rfl, le2, fun tt ntt => ⟨small_le (show 1 ≤ 1000 by decide), fun td ntd => ?_⟩⟩
  have st := same_upd (o := .tup [v, .bl false]) ntt
  have sl := same_upd (o := .lst [.ref tt]) ntd
  have hdn := st _ _ hd0
  have hne : dn ≠ td := ne_of_none hdn ntd
  have nHtd : H td = none := sd.free (st.free ntd)
  have s3 := (sd.trans st).trans sl
  have hlenx := flatP_len he
  refine ⟨KInv K W mk zs n x v wA g dn td H, ⟨wgtL n [(x, false)], none, none, none, none, none, none, [.ref tt], [], [(x, false)], [], rfl, sl _ _ hdn, upd_same, .nil, .cons (.tup (.inl (.inl (sl _ _ upd_same))) (.cons (he.kept (KeepT.of s3) hd) (.cons (.bl false) .nil))) .nil, ?_, fun d hd => (nomatch hd), trivial, ?_, rfl, ?_, fun b ob _ _ e => s3 _ _ e⟩, ?_⟩
  · intro t ht
    rw [List.mem_singleton.mp ht]
    exact he
  · rfl
  · show 0 + (2 * (flatP n x).length + 0) ≤ _
    omega
  · rintro m σ H' ⟨z5, z6, z7, z8, z9, z10, us, vs, ts, ds, rfl, hvs, hus, hV, hU, hE, hF, hC, hR, rfl, hm, kk⟩
    have sH : Same H H' := fun b ob e => kk b ob (ne_of_none e ndn) (ne_of_none e nHtd) e
    have lU := dpAll_len hU
    rw [List.length_map] at lU
    have lV := dpAll_len hV
    have hle := tasks_le hE
    refine ⟨.ref td, rfl, !us.isEmpty, .inl ⟨us, .inl (.inl hus), rfl⟩, ?_⟩
    by_cases hts : ts = []
    · subst hts
      cases hU
      have hR : ds = [foldE W mk n x] := hR
      subst hR
      cases hV with
      | cons hv1 hv2 =>
      cases hv2
      rename_i v1
      exact iteF ⟨.ref dn, rfl, dn, _, 0, v1, rfl, rfl, .inl (.inl hvs), at0, q H' v1 sH hv1⟩
    · obtain ⟨ts', ⟨y, b⟩, rfl⟩ : ∃ ts' t, ts = ts' ++ [t] := ⟨ts.dropLast, ts.getLast hts, (List.dropLast_concat_getLast hts).symm⟩
      have hne' : us ≠ [] := by
        intro z
        rw [z, List.length_append] at lU
        cases lU
      have full : (!us.isEmpty) = true := by
        cases us with
        | nil => exact absurd rfl hne'
        | cons _ _ => rfl
      rw [full]
      obtain ⟨uy, d, xs', hsplit, huy, hU', hyd⟩ := dpAll_last hU hne'
      rw [List.map_append] at hsplit
      obtain ⟨h1, h2⟩ := List.append_inj' hsplit rfl
      have h2 : taskD (y, b) = d := (List.cons.inj h2).1
      subst h1
      subst h2
      have ey : Ex zs n y := hE (y, b) (List.mem_append_right _ (List.mem_singleton.mpr rfl))
      have hE' : ∀ t, t ∈ ts' → Ex zs n t.1 := fun t ht => hE t (List.mem_append_left _ ht)
      obtain ⟨n', rfl⟩ : ∃ n', n = n' + 1 := by
        cases n with
        | zero => cases ey
        | succ n' => exact ⟨n', rfl⟩
      have hrev : (ts' ++ [(y, b)]).reverse = (y, b) :: ts'.reverse := by
        rw [List.reverse_append]
        rfl
      rw [hrev] at hC hR
      have hw : wgtL (n' + 1) (ts' ++ [(y, b)]) = wgtL (n' + 1) ts' + wgt (n' + 1) (y, b) := by
        rw [wgtL_append]
        rfl
      have fts : flatDs (ts'.map taskD) = true := flatDs_of fun d hd => by
        obtain ⟨t, ht, rfl⟩ := List.mem_map.mp hd
        exact flat_task (hE' t ht)
      have fds : flatDs ds = true := flatDs_of hF
      refine iteT ⟨fun σ' H'' => ∃ m', m' < wgtL (n' + 1) (ts' ++ [(y, b)]) ∧ KInv K W mk zs (n' + 1) x v wA g dn td H m' σ' H'', fun σ' H'' h => h, ?_⟩
      unfold taskD at hyd
      cases hyd with
      | tup hS hB =>
      cases hB with
      | cons hv1 hB =>
      cases hB with
      | cons hv2 hB =>
      cases hB
      cases hv2
      rename_i tt2 v1
      have k1 : KeepT H' (upd H' td (.lst us.dropLast)) := KeepT.lst hus
      have hus1 : upd H' td (.lst us.dropLast) td = some (.lst us.dropLast) := upd_same
      have hvs1 : upd H' td (.lst us.dropLast) dn = some (.lst vs) := by
        rw [upd_ne hne]
        exact hvs
      have keep1 : ∀ c ob, c ≠ td → H' c = some ob → upd H' td (.lst us.dropLast) c = some ob := fun c ob hc e => by
        rw [upd_ne hc]
        exact e
      refine ⟨.ref td, rfl, .inl ⟨rfl, _, .inl (.inl hus)⟩, td, us, .ref tt2, rfl, rfl, hus, huy, tt2, [v1, .bl b], rfl, k1.seqt hS, rfl, _, _, rfl, _, _, rfl, rfl, ?_⟩
      have hU1 := dp_keepAll k1 _ _ fts hU'
      have hV1 := dp_keepAll k1 _ _ fds hV
      have hv11 := ey.kept k1 hv1
      have kH1 : KeepT H (upd H' td (.lst us.dropLast)) := (KeepT.of sH).trans k1
      have sH1 : Same H (upd H' td (.lst us.dropLast)) := fun c ob e => keep1 c ob (ne_of_none e nHtd) (sH c ob e)
      revert k1 hus1 hvs1 keep1 hU1 hV1 hv11 kH1 sH1
      generalize upd H' td (.lst us.dropLast) = H1
      intro k1 hus1 hvs1 keep1 hU1 hV1 hv11 kH1 sH1
      obtain ⟨wd, fs, rest, hform, hft, hff⟩ := ey.form
      have hkeq := kidsW_of (W := W) (rest := rest) hft
      rw [← hform] at hkeq
      have hksub := (kidsW_sub C.sub y).length_le
      have hkl := ey.kids.2
      have hfl := ey.flat
      rw [hform, flatD, flatDs, Bool.and_eq_true] at hfl
      have hv11' := hv11
      rw [hform] at hv11'
      obtain ⟨a1, ea1⟩ : ∃ a1, v1 = .ref a1 := by
        cases hv11'
        exact ⟨_, rfl⟩
      subst ea1
      refine ⟨.ref a1, rfl, .ref wA, rfl, a1, wA, wd, fs, W, rest, rfl, hv11', hft, hff, hfl.2, ?_, kH1.seqt hWt, fun H2 p us2 s2 np hp hu2 => ?_⟩
      · rw [← hkeq]
        omega
      rw [← hkeq] at hu2
      have hus2 := s2 _ _ hus1
      have hvs2 := s2 _ _ hvs1
      have k2 := KeepT.of s2
      have hy2 := ey.kept k2 hv11
      have l2 := dpAll_len hu2
      have hpd : p ≠ dn := (ne_of_none hvs1 np).symm
      have hpt : p ≠ td := (ne_of_none hus1 np).symm
      have keepH2 : ∀ c ob, c ≠ dn → c ≠ td → H c = some ob → H2 c = some ob := fun c ob h1 h2 e => s2 _ _ (keep1 _ _ h2 (kk _ _ h1 h2 e))
      have sH2 := sH1.trans s2
      have hsy := szL_kids ey
      have hfull : (!us2.isEmpty) = !(kidsW W y).isEmpty := by
        cases hu : us2 with
        | nil =>
          rw [hu] at l2
          rw [List.eq_nil_of_length_eq_zero l2.symm]
          rfl
        | cons a b =>
          rw [hu] at l2
          cases hk : kidsW W y with
          | nil =>
            rw [hk] at l2
            cases l2
          | cons _ _ => rfl
      refine ⟨.ref p, rfl, !us2.isEmpty, .inl ⟨us2, .inl (.inl hp), rfl⟩, ?_⟩
      cases hop : (!us2.isEmpty && !b) with
      | false =>
        refine and_els hop rfl ?_
        have hCR : (kidsW W y).length ≤ ds.length ∧ Can W ts'.reverse (ds.length - (kidsW W y).length + 1) ∧ run W mk (n' + 1) ts'.reverse (ds.take (ds.length - (kidsW W y).length) ++ [mk y (ds.drop (ds.length - (kidsW W y).length))]) = [foldE W mk (n' + 1) x] := by
          cases b with
          | true => exact ⟨hC.1, hC.2, hR⟩
          | false =>
            have hk0 : kidsW W y = [] := by
              rw [hfull] at hop
              cases hk : kidsW W y with
              | nil => rfl
              | cons _ _ =>
                rw [hk] at hop
                cases hop
            rw [run, foldE, hk0] at hR
            rw [hk0, List.length_nil, Nat.sub_zero, List.take_length, List.drop_length]
            exact ⟨Nat.zero_le _, hC, hR⟩
        obtain ⟨hk1, hC2, hR2⟩ := hCR
        have w1 : 1 ≤ wgt (n' + 1) (y, b) := by
          cases b
          · show 1 ≤ 2 * (flatP (n' + 1) y).length
            omega
          · exact Nat.le_refl 1
        have hstart : (vs.length : Int) - (us2.length : Int) = ((ds.length - (kidsW W y).length : Nat) : Int) := by omega
        refine ⟨.ref dn, rfl, dn, vs, rfl, .inl (.inl (.inl hvs2)), .ref p, rfl, p, us2, rfl, .inl (.inl (.inl hp)), (vs.length : Int), (us2.length : Int), rfl, rfl, ?_⟩
        generalize hst : ds.length - (kidsW W y).length = sN at hC2 hR2 hstart
        have hcut : cutV vs (some (sN : Int)) none = vs.drop sN := by
          unfold cutV
          rw [HT.sIx_none, HT.sIx_nat, show min sN vs.length = sN by omega]
          exact List.take_of_length_le (by rw [List.length_drop]; exact Nat.le_refl _)
        refine ⟨.ref dn, rfl, .int ((vs.length : Int) - (us2.length : Int)), rfl, (vs.length : Int) - (us2.length : Int), rfl, dn, vs, rfl, .inl (.inl hvs2), fun sl2 nsl => ?_⟩
        rw [hstart, hcut]
        have s3 := same_upd (o := .lst (vs.drop sN)) nsl
        have hvs3 := s3 _ _ hvs2
        have hus3 := s3 _ _ hus2
        have hsl3 : upd H2 sl2 (.lst (vs.drop sN)) sl2 = some (.lst (vs.drop sN)) := upd_same
        have sH3 := sH2.trans s3
        have hV3 := dp_keepAll (k2.trans (KeepT.of s3)) _ _ fds hV1
        have hU3 := dp_keepAll (k2.trans (KeepT.of s3)) _ _ fts hU1
        have hy3 := ey.kept (KeepT.of s3) hy2
        have nsd : sl2 ≠ dn := (ne_of_none hvs2 nsl).symm
        have nst : sl2 ≠ td := (ne_of_none hus2 nsl).symm
        have keep3 : ∀ c ob, c ≠ dn → c ≠ td → H c = some ob → upd H2 sl2 (.lst (vs.drop sN)) c = some ob := fun c ob h1 h2 e => s3 _ _ (keepH2 c ob h1 h2 e)
        revert hvs3 hus3 hsl3 sH3 hV3 hU3 hy3 keep3
        generalize upd H2 sl2 (.lst (vs.drop sN)) = H3
        intro hvs3 hus3 hsl3 sH3 hV3 hU3 hy3 keep3
        refine ⟨.ref dn, rfl, .int ((vs.length : Int) - (us2.length : Int)), rfl, (vs.length : Int) - (us2.length : Int), rfl, dn, vs, (vs.length : Int) - (us2.length : Int), rfl, rfl, hvs3, ?_⟩
        have hcutAt : cutAt vs.length (sN : Int) = sN := by
          unfold cutAt
          rw [if_neg (by omega)]
          omega
        rw [hstart, hcutAt]
        have k4 : KeepT H3 (upd H3 dn (.lst (vs.take sN))) := KeepT.lst hvs3
        have hd4 : upd H3 dn (.lst (vs.take sN)) dn = some (.lst (vs.take sN)) := upd_same
        have ht4 : upd H3 dn (.lst (vs.take sN)) td = some (.lst us.dropLast) := by
          rw [upd_ne hne.symm]
          exact hus3
        have hsl4 : upd H3 dn (.lst (vs.take sN)) sl2 = some (.lst (vs.drop sN)) := by
          rw [upd_ne nsd]
          exact hsl3
        have keep4 : ∀ c ob, c ≠ dn → c ≠ td → H c = some ob → upd H3 dn (.lst (vs.take sN)) c = some ob := fun c ob h1 h2 e => by
          rw [upd_ne h1]
          exact keep3 c ob h1 h2 e
        have sH4 : Same H (upd H3 dn (.lst (vs.take sN))) := fun c ob e => keep4 c ob (ne_of_none e ndn) (ne_of_none e nHtd) e
        have hV4 := dp_keepAll k4 _ _ fds hV3
        have hU4 := dp_keepAll k4 _ _ fts hU3
        have hy4 := ey.kept k4 hy3
        revert hd4 ht4 hsl4 keep4 sH4 hV4 hU4 hy4
        generalize upd H3 dn (.lst (vs.take sN)) = H4
        intro hd4 ht4 hsl4 keep4 sH4 hV4 hU4 hy4
        have fdrop := flatDs_drop sN fds
        refine ⟨.ref dn, rfl, .inl ⟨rfl, _, .inl (.inl hd4)⟩, g, rfl, sH4 _ _ hgF, .ref a1, rfl, .ref sl2, rfl, sH4 _ _ hgF, sH4 _ _ hgc, C.cap _ _ _ sH4 hCap, .ref a1, sl2, y, zs, n' + 1, ds.drop sN, vs.drop sN, rfl, hy4, ey, .inl (.inl hsl4), dpAll_drop _ hV4, fdrop, ?_, fun H5 r s5 hr5 => ?_⟩
        · rw [List.length_drop]
          omega
        have hd5 := s5 _ _ hd4
        have ht5 := s5 _ _ ht4
        have fr : flatD (mk y (ds.drop sN)) = true := C.flat _ _ _ _ ey fdrop
        have k6 : KeepT H5 (upd H5 dn (.lst (vs.take sN ++ [r]))) := KeepT.lst hd5
        have k56 := (KeepT.of s5).trans k6
        have ltk : (ds.take sN).length = sN := by
          rw [List.length_take]
          omega
        refine ⟨dn, _, _, rfl, rfl, hd5, ?_, wgtL (n' + 1) ts', by omega, _, _, _, _, _, _, us.dropLast, _, ts', ds.take sN ++ [mk y (ds.drop sN)], rfl, upd_same, ?_, ?_, dp_keepAll k56 _ _ fts hU4, hE', ?_, ?_, hR2, rfl, ?_, fun c ob h1 h2 e => ?_⟩
        · rw [List.length_take, sizeLine_eq]
          omega
        · rw [upd_ne hne.symm]
          exact ht5
        · exact dpAll_append (dp_keepAll k56 _ _ (flatDs_take _ fds) (dpAll_take _ hV4)) (.cons (dp_keep k6 _ _ fr hr5) .nil)
        · intro d hd
          rcases List.mem_append.mp hd with hd | hd
          · exact hF d (List.mem_of_mem_take hd)
          · rw [List.mem_singleton.mp hd]
            exact fr
        · rw [List.length_append, ltk]
          exact hC2
        · rw [List.length_append, ltk, List.length_singleton]
          omega
        · rw [upd_ne h1]
          exact s5 _ _ (keep4 c ob h1 h2 e)
      | true =>
        rw [Bool.and_eq_true, Bool.not_eq_true'] at hop
        obtain ⟨hop1, hop2⟩ := hop
        have hop2 : b = false := by
          cases b
          · rfl
          · cases hop2
        subst hop2
        rw [hop1]
        refine iteT ⟨.bl false, rfl, false, rfl, iteT ⟨.ref td, rfl, .inl ⟨rfl, _, .inl (.inl hus2)⟩, .ref a1, rfl, le2, fun t1 nt1 => ?_⟩⟩
        have s3 := same_upd (o := .tup [.ref a1, .bl true]) nt1
        have hus3 := s3 _ _ hus2
        have lUd : us.dropLast.length ≤ 4200000 := by
          rw [List.length_dropLast]
          omega
        refine ⟨td, _, _, rfl, rfl, hus3, by rw [sizeLine_eq]; omega, ?_⟩
        have k4 : KeepT (upd H2 t1 (.tup [.ref a1, .bl true])) (upd (upd H2 t1 (.tup [.ref a1, .bl true])) td (.lst (us.dropLast ++ [.ref t1]))) := KeepT.lst hus3
        have ht4 : upd (upd H2 t1 (.tup [.ref a1, .bl true])) td (.lst (us.dropLast ++ [.ref t1])) td = some (.lst (us.dropLast ++ [.ref t1])) := upd_same
        have hd4 : upd (upd H2 t1 (.tup [.ref a1, .bl true])) td (.lst (us.dropLast ++ [.ref t1])) dn = some (.lst vs) := by
          rw [upd_ne hne]
          exact s3 _ _ hvs2
        have hp4 : upd (upd H2 t1 (.tup [.ref a1, .bl true])) td (.lst (us.dropLast ++ [.ref t1])) p = some (.lst us2) := by
          rw [upd_ne hpt]
          exact s3 _ _ hp
        have keep4 : ∀ c ob, c ≠ dn → c ≠ td → H c = some ob → upd (upd H2 t1 (.tup [.ref a1, .bl true])) td (.lst (us.dropLast ++ [.ref t1])) c = some ob := fun c ob h1 h2 e => by
          rw [upd_ne h2]
          exact s3 _ _ (keepH2 c ob h1 h2 e)
        have fk : flatDs (kidsW W y) = true := flat_all (ey.kidsW C.sub)
        have fty : flatD (taskD (y, true)) = true := flat_task (t := (y, true)) ey
        have kk4 := (KeepT.of s3).trans k4
        have hty : Dp K (upd (upd H2 t1 (.tup [.ref a1, .bl true])) td (.lst (us.dropLast ++ [.ref t1]))) (.ref t1) (taskD (y, true)) :=
          dp_keep k4 _ _ fty (.tup (.inl (.inl upd_same)) (.cons (dp_keep (KeepT.of s3) _ _ ey.flat hy2) (.cons (.bl true) .nil)))
        have hU4 := dpAll_append (dp_keepAll (k2.trans kk4) _ _ fts hU1) (.cons hty .nil)
        have hV4 := dp_keepAll (k2.trans kk4) _ _ fds hV1
        have hK4 := dp_keepAll kk4 _ _ fk hu2
        revert ht4 hd4 hp4 keep4 hU4 hV4 hK4
        generalize upd (upd H2 t1 (.tup [.ref a1, .bl true])) td (.lst (us.dropLast ++ [.ref t1])) = H4
        intro ht4 hd4 hp4 keep4 hU4 hV4 hK4
        -- the kids, from the last to the first
        refine ⟨.ref td, rfl, .inl ⟨rfl, _, .inl (.inl ht4)⟩, .ref p, rfl, p, us2, rfl, .inl (.inl hp4), fun rv nrv => ⟨rv, rfl, ⟨us2.reverse, .inl (.inl upd_same)⟩, fun D nD => ?_⟩⟩
        have s5 := same_upd (o := .lst us2.reverse) nrv
        have hrv5 : upd H4 rv (.lst us2.reverse) rv = some (.lst us2.reverse) := upd_same
        revert s5 hrv5 nD
        generalize upd H4 rv (.lst us2.reverse) = H5
        intro nD s5 hrv5
        have hKr : DpAll K H5 us2.reverse (kidsW W y).reverse := dpAll_rev (dp_keepAll (KeepT.of s5) _ _ fk hK4)
        have fkr : flatDs (kidsW W y).reverse = true := flatDs_of fun d hd => (ey.kidsW C.sub d (List.mem_reverse.mp hd)).flat
        have ht5 := s5 _ _ ht4
        have hd5 := s5 _ _ hd4
        have hDt : td ≠ D := ne_of_none ht5 nD
        have hDd : dn ≠ D := ne_of_none hd5 nD
        have hrD : rv ≠ D := ne_of_none hrv5 nD
        refine walk_body (xs := us2.reverse) (fun i H' => ∃ acc, H' D = some (.lst acc) ∧ acc.length = i ∧ DpAll K H' acc (((kidsW W y).reverse.take i).map fun z => taskD (z, false)) ∧ Same H5 H') ?_ ?_ ?_ ?_
        · refine ⟨[], upd_same, rfl, ?_, same_upd nD⟩
          rw [List.take_zero]
          exact .nil
        · rintro i H6 _ ⟨acc, hD, hacc, hdp, s6⟩
          exact .inl (.inl (s6 _ _ hrv5))
        · rintro i u6 H6 hu6 ⟨acc, hD, hacc, hdp, s6⟩
          obtain ⟨dz, hdz, hvz⟩ := dpAll_at hKr hu6
          have ez := ey.kidsW C.sub dz (List.mem_reverse.mp (List.mem_of_getElem? hdz))
          have hi6 : i < us2.reverse.length := (List.getElem?_eq_some_iff.mp hu6).1
          rw [List.length_reverse] at hi6
          refine ⟨rfl, yes_then ⟨u6, rfl, le2, fun tn ntn => ?_⟩⟩
          have s7 := same_upd (o := .tup [u6, .bl false]) ntn
          have hD7 := s7 _ _ hD
          have k7 : KeepT (upd H6 tn (.tup [u6, .bl false])) (upd (upd H6 tn (.tup [u6, .bl false])) D (.lst (acc ++ [.ref tn]))) := KeepT.lst hD7
          have fpre : flatDs (((kidsW W y).reverse.take i).map fun z => taskD (z, false)) = true := flatDs_of fun d hd => by
            obtain ⟨z, hz, rfl⟩ := List.mem_map.mp hd
            exact flat_task (t := (z, false)) (ey.kidsW C.sub z (List.mem_reverse.mp (List.mem_of_mem_take hz)))
          refine ⟨acc, hD7, small1000 (by omega), acc ++ [.ref tn], upd_same, by rw [List.length_append, hacc]; rfl, ?_, fun c ob e => ?_⟩
          · rw [take_snoc hdz, List.map_append]
            refine dpAll_append (dp_keepAll ((KeepT.of s7).trans k7) _ _ fpre hdp) (.cons ?_ .nil)
            exact dp_keep k7 _ _ (flat_task (t := (dz, false)) ez) (.tup (.inl (.inl upd_same)) (.cons (ez.kept (KeepT.of (s6.trans s7)) hvz) (.cons (.bl false) .nil)))
          · rw [upd_ne (ne_of_none e nD)]
            exact s7 _ _ (s6 _ _ e)
        · rintro H6 ⟨acc, hD, hacc, hdp, s6⟩
          have lr : (kidsW W y).reverse.length = us2.reverse.length := by
            rw [List.length_reverse, List.length_reverse, l2]
          rw [← lr, List.take_length] at hdp
          rw [List.length_reverse] at hacc
          have ht6 := s6 _ _ ht5
          have hd6 := s6 _ _ hd5
          have k8 : KeepT H6 (upd H6 td (.lst (us.dropLast ++ [.ref t1] ++ acc))) := KeepT.lst ht6
          have k46 := (KeepT.of s5).trans ((KeepT.of s6).trans k8)
          have hmap : (ts' ++ [(y, true)] ++ (kidsW W y).reverse.map fun z => (z, false)).map taskD = ts'.map taskD ++ [taskD (y, true)] ++ (kidsW W y).reverse.map fun z => taskD (z, false) := by
            rw [List.map_append, List.map_append, List.map_map]
            rfl
          have fU4 : flatDs (ts'.map taskD ++ [taskD (y, true)]) = true := flatDs_append fts (by rw [flatDs, fty]; rfl)
          have fkt : flatDs ((kidsW W y).reverse.map fun z => taskD (z, false)) = true := flatDs_of fun d hd => by
            obtain ⟨z, hz, rfl⟩ := List.mem_map.mp hd
            exact flat_task (t := (z, false)) (ey.kidsW C.sub z (List.mem_reverse.mp hz))
          have hrev2 : (ts' ++ [(y, true)] ++ (kidsW W y).reverse.map fun z => (z, false)).reverse = (kidsW W y).map (fun z => (z, false)) ++ (y, true) :: ts'.reverse := by
            rw [List.reverse_append, List.reverse_append, ← List.map_reverse, List.reverse_reverse]
            rfl
          have hszr : szL (n' + 1) (kidsW W y).reverse = szL (n' + 1) (kidsW W y) := szL_perm (List.reverse_perm _)
          have hsub := szL_sub (n := n' + 1) (kidsW_sub C.sub y)
          have hwn : wgtL (n' + 1) (ts' ++ [(y, true)] ++ (kidsW W y).reverse.map fun z => (z, false)) = wgtL (n' + 1) ts' + 1 + 2 * szL (n' + 1) (kidsW W y) := by
            rw [wgtL_append, wgtL_append, wgtL_false, hszr]
            rfl
          have hwy : wgt (n' + 1) (y, false) = 2 * (flatP (n' + 1) y).length := rfl
          refine ⟨td, D, us.dropLast ++ [.ref t1], acc, rfl, rfl, ht6, hD, ?_, wgtL (n' + 1) (ts' ++ [(y, true)] ++ (kidsW W y).reverse.map fun z => (z, false)), by omega, _, _, _, _, _, _, us.dropLast ++ [.ref t1] ++ acc, vs, ts' ++ [(y, true)] ++ (kidsW W y).reverse.map fun z => (z, false), ds, rfl, ?_, upd_same, ?_, ?_, ?_, hF, ?_, ?_, rfl, by omega, fun c ob h1 h2 e => ?_⟩
          · rw [List.length_append, List.length_singleton, sizeLine_eq]
            omega
          · rw [upd_ne hne]
            exact hd6
          · exact dp_keepAll k46 _ _ fds hV4
          · rw [hmap]
            exact dpAll_append (dp_keepAll k46 _ _ fU4 hU4) (dp_keepAll k8 _ _ fkt hdp)
          · intro t ht
            rcases List.mem_append.mp ht with ht | ht
            · rcases List.mem_append.mp ht with ht | ht
              · exact hE' t ht
              · rw [List.mem_singleton.mp ht]
                exact ey
            · obtain ⟨z, hz, rfl⟩ := List.mem_map.mp ht
              exact (ey.kidsW C.sub z (List.mem_reverse.mp hz)).mono (Nat.le_succ n')
          · rw [hrev2, can_false]
            refine ⟨Nat.le_add_left _ _, ?_⟩
            rw [show ds.length + (kidsW W y).length - (kidsW W y).length + 1 = ds.length + 1 by omega]
            exact hC
          · rw [hrev2, run_open C.sub ey]
            exact hR
          · rw [upd_ne h2]
            exact s6 _ _ (s5 _ _ (keep4 c ob h1 h2 e))
end
end K6.Fo

set_option maxHeartbeats 1000000
namespace K6.Fo
open PySem PySem.Spec PyProof.Rows L2 GR WX TX RZ NdefX CLo
/-- what is made of a part: a thing of its own, or the part with what was made of its parts -/
def mkG (W : List Str) (f : PyData → Option PyData) (y : PyData) (qs : List PyData) : PyData := match f y with
  | some o => o
  | none => if qs.isEmpty then y else refillX W y qs
theorem mkG_flat {W : List Str} {f : PyData → Option PyData} (hf : ∀ y o, flatD y = true → f y = some o → flatD o = true) (zs : List Str) (n : Nat) (y : PyData) (qs : List PyData) (h : Ex zs n y) (hq : flatDs qs = true) : flatD (mkG W f y qs) = true := by
  unfold mkG
  split
  · rename_i o e
    exact hf y o h.flat e
  · split
    · exact h.flat
    · exact flat_refillX h hq
def isMade (st : Stmt) (G : NF) : Prop := ∃ (q : Str) (cl : List (Str × Addr)) (c : Addr), G = NF.of st "made" q cl c
/-! ### keyed -/
abbrev s_keyed : Stmt := topS 18
abbrev N_keyed : List Str := ["expression", "other", "made", "wanted"]
theorem sc_keyed : FnScope N_keyed ["expression", "other"] (defScope s_keyed) := ⟨rfl, rfl, rfl, by decide +kernel, rfl, by decide +kernel, by decide +kernel⟩
abbrev st_mK : Stmt := (defBody s_keyed).getD 1 (.Pass ⟨0, 0, 0, 0⟩)
abbrev N_mK : List Str := ["part", "parts", "other", "wanted"]
theorem ns_mK : NScope N_mK ["part", "parts"] ["other", "wanted"] (C8.fnScope st_mK) := nscope_by (by decide +kernel)
def fK (o : PyData) (y : PyData) : Option PyData := if headW y = "key" then some o else none
def CapK (K : PySem.W.Frag) (o : PyData) (ws : List (Option V)) (H : Hp) : Prop := ∃ (vo : V) (wA : Addr), ws = [some vo, some (.ref wA)] ∧ Dp K H vo o ∧ SqT K H wA (W1.map V.str)
theorem mkOkK {K : PySem.W.Frag} {o : PyData} (ho : flatD o = true) : MkOk W1 (mkG W1 (fK o)) (CapK K o) := by
  refine ⟨by decide, fun zs n y qs h hq => mkG_flat (fun y o' _ e => ?_) zs n y qs h hq, fun ws H H' s h => ?_⟩
  · unfold fK at e
    split at e
    · cases e
      exact ho
    · cases e
  · obtain ⟨vo, wA, rfl, h1, h2⟩ := h
    exact ⟨vo, wA, rfl, dp_keep (KeepT.of s) _ _ ho h1, (KeepT.of s).seqt h2⟩
section
variable {P : Program} {w : World} {K : PySem.W.Frag} {mg : Str → Option Value} {base : Heap}
theorem nok_mK {o : PyData} (ho : flatD o = true) {fw : Addr} {fdw : FuncData} {k : Nat} (Gw : FnOk P w K mg base CX0 k fw fdw ["expression", "wanted", "parts"] (sp_with K)) (gw : mg "with_contained_of" = some (.ref fw)) (Kw : PySem.W.keepIn K (.ref fw) = true) (bw : Binds K fdw ["expression", "wanted", "parts"] [])
    (hcd : True) : ∀ G, isMade st_mK G → ∀ g, NOk P w K mg base CX0 (k + 1) g G ["part", "parts"] ["other", "wanted"] (sp_made K W1 (mkG W1 (fK o)) (CapK K o)) := by
  rintro G ⟨q, cl, c, rfl⟩ g
  refine nok_of (N := N_mK) ns_mK (fun _ _ _ us hl => match us, hl with | [_, _], _ => rfl) (fun ws vs H Q E h => ?_) (fun A outer s H vs ws Q E hr hf hc hl h => ?_)
  · obtain ⟨_, v, p, y, zs, n, qs, ups, rfl, _⟩ := h
    rfl
  obtain ⟨⟨vo, wA, rfl, hvo, hWt⟩, v, p, y, zs, n, qs, ups, rfl, hd, he, hP, hPA, hPF, hlen, q⟩ := h
  refine ⟨_, (pss_cons (ps_if (pt_cmpR op_eq (pe_ix ix_tup (pv 0) pe_int (fun _ _ => rfl)) pe_str (nomark _))
        (pss_one (ps_ret (pv 2)))
        pss_nil)
      (pss_one (ps_ret (pe_ifExp (pt_truth (pv 1) (fun _ => rfl)) (pe_call Gw hr (by rfl) gw Kw bw .nil pass0 (pa_cons (pv 0) (pa_cons (pv 3) (pa_cons (pv 1) pa_nil)))) (pv 0))))), ?_⟩
  obtain ⟨wd, fs, rest, rfl, hft, hff⟩ := he.form
  have hfl := he.flat
  rw [flatD, flatDs, Bool.and_eq_true] at hfl
  have hk := kidsW_of (W := W1) (rest := rest) hft
  have hl6 : (kidsW W1 (.tuple (.str wd :: rest))).length ≤ 6 := by
    have h1 := (kidsW_sub (W := W1) (by decide) (.tuple (.str wd :: rest))).length_le
    cases n with
    | zero => cases he
    | succ n =>
      have h2 := he.kids.2
      omega
  have hd0 := hd
  cases hd with
  | tup hS hB =>
  cases hB with
  | cons hw hB =>
  cases hw
  rename_i a vs1
  refine ⟨.ref a, rfl, a, _, 0, .str wd, rfl, rfl, hS, at0, rfl, _, rfl, ite2 (fun e1 => ?_) (fun e1 => ?_)⟩
  · have e1 : wd = "key" := by simpa using e1
    refine ⟨vo, rfl, q H vo (fun _ _ e => e) ?_⟩
    have : mkG W1 (fK o) (.tuple (.str wd :: rest)) qs = o := by
      unfold mkG fK
      rw [if_pos (show headW (.tuple (.str wd :: rest)) = "key" from e1)]
    rw [this]
    exact hvo
  have e1 : wd ≠ "key" := fun z => e1 (by simpa using z)
  have hmk : mkG W1 (fK o) (.tuple (.str wd :: rest)) qs = if qs.isEmpty then .tuple (.str wd :: rest) else refillX W1 (.tuple (.str wd :: rest)) qs := by
    unfold mkG fK
    rw [if_neg (show ¬ headW (.tuple (.str wd :: rest)) = "key" from e1)]
  rw [hmk] at q
  have lP := dpAll_len hPA
  refine ⟨.ref p, rfl, !ups.isEmpty, .inl ⟨ups, hP, rfl⟩, ?_⟩
  cases hups : ups with
  | nil =>
    have hq0 : qs = [] := by
      rw [hups] at lP
      exact List.eq_nil_of_length_eq_zero lP.symm
    rw [hq0] at q
    exact iteF ⟨.ref a, rfl, q H _ (fun _ _ e => e) hd0⟩
  | cons u0 ur =>
    have hq0 : qs.isEmpty = false := by
      rw [hups] at lP
      cases qs with
      | nil => cases lP
      | cons _ _ => rfl
    rw [hq0] at q
    rw [← hups]
    have hup : (!ups.isEmpty) = true := by
      rw [hups]
      rfl
    rw [hup]
    refine iteT ⟨.ref a, rfl, .ref wA, rfl, .ref p, rfl, a, wA, p, wd, fs, W1, rest, qs, ups, rfl, hWt, hd0, hft, hff, hfl.2, hP, hPA, hPF, by rw [hlen, hk], by omega, fun H' r s hr' => q H' (.ref r) s ?_⟩
    have : refillX W1 (.tuple (.str wd :: rest)) qs = .tuple (.str wd :: refill W1 fs rest qs) := by
      show PyData.tuple (.str wd :: refill W1 (fieldsOf wd) rest qs) = _
      rw [show fieldsOf wd = fs from fieldsOf_table (wd, fs) hft]
    rw [this]
    exact hr'
end
end K6.Fo

set_option maxHeartbeats 1000000
namespace K6.Fo
open PySem PySem.Spec PyProof.Rows L2 GR WX TX RZ NdefX CLo LamX
def nmK : Nat → Nat → Str := fun _ _ => "keyed.<locals>.made"
def keyW (o : PyData) (n : Nat) (x : PyData) : PyData := foldE W1 (mkG W1 (fK o)) n x
def sp_keyed (K : PySem.W.Frag) (T : List NTab) : Sp := fun vs H Q _ => ∃ (v vo : V) (x o : PyData) (zs : List Str) (n : Nat), vs = [v, vo] ∧ Dp K H v x ∧ Ex zs n x ∧ Dp K H vo o ∧ flatD o = true ∧ (flatP n x).length ≤ 2100000 ∧ TabsN T H ∧ ∀ H' v', ExtN H H' → TabsN T H' → Dp K H' v' (keyW o n x) → Q v' H'
theorem _root_.K6.KeepT.ext {H H' : Hp} (s : ExtN H H') : KeepT H H' := ⟨fun b xs e => s b _ e (fun _ z => by cases z), fun b o xs e => s b _ e (fun _ z => by cases z)⟩
abbrev mkOf (st : Stmt) (X : L2.Cx) : Addr → NF := NF.of st "made" (X.env.qual ++ "made") (cloFrom X.env.cells (C8.fnScope st).names [])
section
variable {P : Program} {w : World} {K : PySem.W.Frag} {mg : Str → Option Value} {base : Heap}
theorem ok_keyed {T : List NTab} {f ff c PT : Addr} {fd fdf : FuncData} {k : Nat} (F : FunC K "keyed" "keyed" s_keyed f fd c) (TB : TabB base mg c PT) (hm : (PT, nmK) ∈ T) (hu : ∀ p ∈ T, p.1 = PT → p.2 = nmK)
    (Gf : ∀ o, flatD o = true → FnP P w K mg base k ff fdf ["expression", "wanted", "made"] (preC (isMade st_mK) ["other", "wanted"]) (sp_folded K W1 (mkG W1 (fK o)) (CapK K o))) (gf : mg "folded" = some (.ref ff)) (Kf : PySem.W.keepIn K (.ref ff) = true) (bf : Binds K fdf ["expression", "wanted", "made"] []) :
    FnOk P w K mg base CX0 (k + 1) f fd ["expression", "other"] (sp_keyed K T) := by
  have nd := sc_keyed.nd
  refine F.ok sc_keyed (fun vs H Q E h => ?_) (fun A outer s H vs Q E hr h => ?_)
  · obtain ⟨v, vo, x, o, zs, n, rfl, _⟩ := h
    rfl
  obtain ⟨v, vo, x, o, zs, n, rfl, hd, he, hdo, hfo, hb, hT, q⟩ := h
  have hB : ndefB (defScope s_keyed) (C8.fnScope st_mK) ["other", "wanted"] = true := by decide +kernel
  refine ⟨_, (pss_cons (ps_set (i := 3) nd rfl (.inr rfl) (pe_tup (pa_cons pe_str pa_nil)))
      (pss_cons (ps_ndefMS (st := st_mK) (T := T) (nm := nmK) (c := c) (P := PT) (name := "made") (i := 2) rfl TB rfl hm rfl hu (ndef_free hB) rfl rfl rfl nd rfl (.inl rfl) (.inl rfl))
      (pss_one (ps_ret (pe_callC (mk := mkOf st_mK (cxOf CX0 P w K mg base N_keyed "keyed" (defScope s_keyed) f (.ref c) A outer s H E).nox) (js := [1, 3]) (Gf o hfo) (fun c' => ⟨_, _, _, rfl⟩) (fun _ => rfl) (fun ok => Caps.made ok (ndef_free hB) (ndef_fr hB) rfl) (fun _ => rfl) hr (by rfl) gf Kf bf (pa_cons (pv 0) (pa_cons (pv 3) (pa_cons (pv 2) pa_nil)))))))), ?_⟩
  refine ⟨Nat.le_trans (show 1 ≤ 2 by decide) le2, fun wA nw => ?_⟩
  have sw := same_upd (o := .tup [.str "free"]) nw
  have hw : upd H wA (.tup [.str "free"]) wA = some (.tup [.str "free"]) := upd_same
  revert sw hw
  generalize upd H wA (.tup [.str "free"]) = H1
  intro sw hw
  refine ⟨fun p hp => (hT p hp).ext sw, fun g c' H2 x2 _ hT2 _ hg hc => ?_⟩
  have k2 : KeepT H H2 := (KeepT.of sw).trans (KeepT.ext x2)
  have hw2 : SqT K H2 wA (W1.map V.str) := .inl (.inl (x2 _ _ hw (fun _ z => by cases z)))
  refine ⟨v, rfl, .ref wA, rfl, .ref g, rfl, g, c', hg, hc, v, wA, x, zs, n, rfl, he.kept k2 hd, he, hw2, ⟨vo, wA, rfl, dp_keep k2 _ _ hfo hdo, hw2⟩, hb, fun H3 v' s3 hr3 => q H3 v' ?_ ?_ hr3⟩
  · exact ((ExtN.of sw).trans x2).trans (ExtN.of s3)
  · exact fun p hp => (hT2 p hp).ext s3
end
end K6.Fo

namespace K6
open PySem PySem.Spec PyProof.Rows L2 GR WX TX RZ NdefX LamX
theorem flat_kd {zs : List Str} {o : PyData} (ho : flatD o = true) : ∀ {n : Nat} {x : PyData}, Ex zs n x → flatD (kd o n x) = true
  | 0, _, h => by cases h
  | n + 1, x, h => by
    rw [kd]
    split
    · exact ho
    · split
      · exact h.flat
      · have hq : flatDs ((kidsF x).map (kd o n)) = true := flatDs_of fun d hd => by
          obtain ⟨y, hy, rfl⟩ := List.mem_map.mp hd
          exact flat_kd ho (h.kidsF y hy)
        obtain ⟨wd, fs, rest, rfl, _, _⟩ := h.form
        have hf := h.flat
        rw [flatD, flatDs, Bool.and_eq_true] at hf
        show flatD (.tuple (.str wd :: refill (fieldsOf wd) rest _)) = true
        rw [flatD, flatDs, flat_refill hf.2 hq]
        rfl
theorem refill_eq : ∀ (fs : List Str) (ds qs : List PyData), Fo.refill W1 fs ds qs = refill fs ds qs
  | f :: fs, d :: ds, qs => by
    have e1 : Fo.refill1 W1 f d qs = refill1 f d qs := by
      unfold Fo.refill1 refill1
      by_cases h : f = "extra"
      · rw [if_pos h, if_pos h]
      · rw [if_neg h, if_neg h]
        by_cases h2 : f = "free"
        · rw [if_pos h2, if_pos (List.mem_singleton.mpr h2)]
        · rw [if_neg h2, if_neg (fun z => h2 (List.mem_singleton.mp z))]
    rw [Fo.refill, refill, e1]
    have e2 : Fo.takes W1 f d = takes f d := rfl
    rw [e2, refill_eq fs ds]
  | [], _, _ => by simp only [Fo.refill, refill]
  | _ :: _, [], _ => by simp only [Fo.refill, refill]
theorem kd_eq {zs : List Str} {o : PyData} : ∀ {n : Nat} {x : PyData}, Ex zs n x → Fo.keyW o n x = kd o n x
  | 0, x, h => by cases h
  | n + 1, x, h => by
    have ek : Fo.kidsW W1 x = kidsF x := by
      unfold Fo.kidsW kidsF
      rfl
    have em : (kidsF x).map (Fo.foldE W1 (Fo.mkG W1 (Fo.fK o)) n) = (kidsF x).map (kd o n) := List.map_congr_left fun y hy => kd_eq (h.kidsF y hy)
    show Fo.foldE W1 (Fo.mkG W1 (Fo.fK o)) (n + 1) x = _
    rw [Fo.foldE, ek, em, kd]
    unfold Fo.mkG Fo.fK
    by_cases h1 : headW x = "key"
    · rw [if_pos h1, if_pos h1]
    · rw [if_neg h1, if_neg h1]
      show (if ((kidsF x).map (kd o n)).isEmpty = true then x else Fo.refillX W1 x ((kidsF x).map (kd o n))) = _
      rw [List.isEmpty_map]
      by_cases h2 : (kidsF x).isEmpty = true
      · rw [if_pos h2, if_pos h2]
      · rw [if_neg h2, if_neg h2]
        obtain ⟨wd, fs, rest, rfl, _, _⟩ := h.form
        show PyData.tuple (.str wd :: Fo.refill W1 (fieldsOf wd) rest _) = .tuple (.str wd :: refill (fieldsOf wd) rest _)
        rw [refill_eq]
def sp_keyed (K : PySem.W.Frag) (T : List NTab) : Sp := fun vs H Q _ => ∃ (v vo : V) (x o : PyData) (zs : List Str) (n : Nat), vs = [v, vo] ∧ Dp K H v x ∧ Ex zs n x ∧ Dp K H vo o ∧ flatD o = true ∧ (flatP n x).length ≤ 2100000 ∧ TabsN T H ∧ ∀ H' v', ExtN H H' → TabsN T H' → Dp K H' v' (kd o n x) → Q v' H'
theorem keyed_imp {P : Program} {w : World} {K : PySem.W.Frag} {mg : Str → Option Value} {base : Heap} {T : List NTab} {k : Nat} {f : Addr} {fd : FuncData} (G : FnOk P w K mg base CX0 k f fd ["expression", "other"] (Fo.sp_keyed K T)) : FnOk P w K mg base CX0 k f fd ["expression", "other"] (sp_keyed K T) := by
  refine G.imp ?_
  rintro vs H Q E ⟨v, vo, x, o, zs, n, rfl, h1, h2, h3, h4, h5, h6, q⟩
  exact ⟨v, vo, x, o, zs, n, rfl, h1, h2, h3, h4, h5, h6, fun H' v' x' hT hr => q H' v' x' hT (by rw [← kd_eq h2]; exact hr)⟩
end K6

namespace K6
open PySem PySem.Spec PyProof.Rows L2 GR WX TX RZ
/-- any walk over a list or a tuple that gives its items in turn -/
theorem walk_bodyW {J : It} {G : Hp → Prop} {xs : List V} (w : Walk J xs.length G (YAt xs)) {body : V → Hp → (Hp → Prop) → Prop} {H0 : Hp} {Qd : Hp → Prop} (Pv : Nat → Hp → Prop) (h0 : Pv 0 H0) (hl : ∀ i H, i ≤ xs.length → Pv i H → G H)
    (hs : ∀ i x H, xs[i]? = some x → Pv i H → body x H (Pv (i + 1))) (hd : ∀ H, Pv xs.length H → Qd H) :
    ∃ W : Nat → Nat → Hp → Prop, (∃ m, W 0 m H0) ∧ ∀ i m H, W i m H →
      (J.stop i H ∧ Qd H) ∨ (J.go i H ∧ ∃ Nx : Hp → Prop, (∀ H', Nx H' → ∃ m', m' < m ∧ W (i + 1) m' H') ∧ ∀ x H', J.yld i H x H' → body x H' Nx) := by
  refine ⟨fun i m H => m = xs.length - i ∧ i ≤ xs.length ∧ Pv i H, ⟨xs.length, rfl, Nat.zero_le _, h0⟩, ?_⟩
  rintro i m H ⟨rfl, hi, p⟩
  have q := hl i H hi p
  by_cases hlt : i < xs.length
  · refine .inr ⟨w.goes i H hlt q, Pv (i + 1), fun H' p' => ⟨xs.length - (i + 1), by omega, rfl, hlt, p'⟩, fun x H' y => ?_⟩
    obtain ⟨rfl, hx⟩ := w.yields i H x H' hlt q y
    exact hs i x _ hx p
  · obtain rfl : i = xs.length := by omega
    exact .inl ⟨w.stops H q, hd H p⟩
/-- what an expression contains, and whether it is bound there -/
def pickB : List Str → List PyData → List Task
  | f :: fs, d :: ds => (if f = "extra" then (items d).map (fun z => (z, false)) else if f = "free" then [(d, false)] else if f = "bound" then [(d, true)] else []) ++ pickB fs ds
  | _, _ => []
def withB : PyData → List Task
  | .tuple (.str w :: rest) => pickB (fieldsOf w) rest
  | _ => []
theorem withB_of {w : Str} {fs : List Str} {rest : List PyData} (ht : (w, fs) ∈ table) : withB (.tuple (.str w :: rest)) = pickB fs rest := by
  show pickB (fieldsOf w) rest = _
  rw [show fieldsOf w = fs from fieldsOf_table (w, fs) ht]
/-- the kids are these, without the flags -/
theorem pickB_kids : ∀ (fs : List Str) (ds : List PyData), (pickB fs ds).map (·.1) = pick W2 fs ds
  | f :: fs, d :: ds => by
    have ih := pickB_kids fs ds
    simp only [pickB, pick, List.map_append, ih]
    congr 1
    by_cases h1 : f = "extra"
    · rw [if_pos h1, if_pos h1, List.map_map]
      exact List.map_id _
    · rw [if_neg h1, if_neg h1]
      by_cases h2 : f = "free"
      · rw [if_pos h2, if_pos (by rw [h2]; decide)]
        rfl
      · rw [if_neg h2]
        by_cases h3 : f = "bound"
        · rw [if_pos h3, if_pos (by rw [h3]; decide)]
          rfl
        · rw [if_neg h3, if_neg (fun h => by
            simp only [W2, List.mem_cons, List.not_mem_nil, or_false] at h
            exact h.elim h2 h3)]
          rfl
  | [], _ => by simp only [pickB, pick, List.map_nil]
  | _ :: _, [] => by simp only [pickB, pick, List.map_nil]
theorem withB_kids {zs : List Str} {n : Nat} {x : PyData} (h : Ex zs n x) : (withB x).map (·.1) = kids x := by
  obtain ⟨w, fs, rest, rfl, ht, _⟩ := h.form
  rw [withB_of ht, kids_of ht]
  exact pickB_kids _ _
/-- the free kids are those without a flag -/
theorem pickB_free : ∀ (fs : List Str) (ds : List PyData), ((pickB fs ds).filter fun t => !t.2).map (·.1) = pick W1 fs ds
  | f :: fs, d :: ds => by
    have ih := pickB_free fs ds
    simp only [pickB, pick, List.filter_append, List.map_append, ih]
    congr 1
    by_cases h1 : f = "extra"
    · rw [if_pos h1, if_pos h1]
      have : ((items d).map (fun z => ((z, false) : Task))).filter (fun t => !t.2) = (items d).map (fun z => ((z, false) : Task)) := by
        rw [List.filter_eq_self]
        intro t ht
        obtain ⟨z, _, rfl⟩ := List.mem_map.mp ht
        rfl
      rw [this, List.map_map]
      exact List.map_id _
    · rw [if_neg h1, if_neg h1]
      by_cases h2 : f = "free"
      · rw [if_pos h2, if_pos (by rw [h2]; decide)]
        rfl
      · rw [if_neg h2, if_neg (fun h => h2 (List.mem_singleton.mp h))]
        by_cases h3 : f = "bound"
        · rw [if_pos h3]
          rfl
        · rw [if_neg h3]
          rfl
  | [], _ => by simp only [pickB, pick, List.filter_nil, List.map_nil]
  | _ :: _, [] => by simp only [pickB, pick, List.filter_nil, List.map_nil]
theorem withB_free {zs : List Str} {n : Nat} {x : PyData} (h : Ex zs n x) : ((withB x).filter fun t => !t.2).map (·.1) = kidsF x := by
  obtain ⟨w, fs, rest, rfl, ht, _⟩ := h.form
  rw [withB_of ht, kidsF_of ht]
  exact pickB_free _ _
section
variable {K : PySem.W.Frag}
/-- pairs are being made into the list at D, the flag b -/
def PInv (K : PySem.W.Frag) (b : Bool) (H1 : Hp) (D : Addr) (xs : List PyData) (i : Nat) (H : Hp) : Prop := ∃ acc, H D = some (.lst acc) ∧ acc.length = i ∧ DpAll K H acc ((xs.take i).map fun z => taskD (z, b)) ∧ Same H1 H
theorem PInv.start {b : Bool} {H1 : Hp} {D : Addr} {xs : List PyData} (nD : H1 D = none) : PInv K b H1 D xs 0 (upd H1 D (.lst [])) := by
  refine ⟨[], upd_same, rfl, ?_, same_upd nD⟩
  rw [List.take_zero]
  exact .nil
theorem PInv.step {b : Bool} {H1 H : Hp} {D : Addr} {xs : List PyData} {us : List V} {i : Nat} {u : V} (B : PInv K b H1 D xs i H) (nD : H1 D = none) (hU : DpAll K H1 us xs) (hf : flatDs xs = true) (hu : us[i]? = some u) (hl : us.length ≤ 900) :
    2 ≤ sizeLine ∧ ∀ p, H p = none → ∃ acc, upd H p (.tup [u, .bl b]) D = some (.lst acc) ∧ acc.length < sizeLine ∧ PInv K b H1 D xs (i + 1) (upd (upd H p (.tup [u, .bl b])) D (.lst (acc ++ [.ref p]))) := by
  refine ⟨le2, fun p np => ?_⟩
  obtain ⟨acc, hD, hacc, hdp, kk⟩ := B
  obtain ⟨d, hd, hud⟩ := dpAll_at hU hu
  have hi : i < us.length := (List.getElem?_eq_some_iff.mp hu).1
  have s7 := same_upd (o := .tup [u, .bl b]) np
  have hD7 := s7 _ _ hD
  have k7 : KeepT (upd H p (.tup [u, .bl b])) (upd (upd H p (.tup [u, .bl b])) D (.lst (acc ++ [.ref p]))) := KeepT.lst hD7
  have fd := flatDs_at hf hd
  have ft : ∀ z, flatD z = true → flatD (taskD (z, b)) = true := fun z hz => by
    unfold taskD
    simp only [flatD, flatDs, hz, Bool.and_self]
  have fpre : flatDs ((xs.take i).map fun z => taskD (z, b)) = true := flatDs_of fun d hd => by
    obtain ⟨z, hz, rfl⟩ := List.mem_map.mp hd
    obtain ⟨j, hj⟩ := List.getElem?_of_mem (List.mem_of_mem_take hz)
    exact ft z (flatDs_at hf hj)
  refine ⟨acc, hD7, small1000 (by omega), acc ++ [.ref p], upd_same, by rw [List.length_append, hacc]; rfl, ?_, fun c ob e => ?_⟩
  · rw [take_snoc hd, List.map_append]
    refine dpAll_append (dp_keepAll ((KeepT.of s7).trans k7) _ _ fpre hdp) (.cons ?_ .nil)
    exact dp_keep k7 _ _ (ft d fd) (.tup (.inl (.inl upd_same)) (.cons (dp_keep (KeepT.of (kk.trans s7)) _ _ fd hud) (.cons (.bl b) .nil)))
  · rw [upd_ne (ne_of_none e nD)]
    exact s7 _ _ (kk _ _ e)
end
end K6

namespace K6
open PySem PySem.Spec PyProof.Rows L2 GR WX TX RZ
theorem b_no {f : Str} {d : PyData} {fs : List Str} {ds : List PyData} (h1 : f ≠ "extra") (h2 : f ≠ "free") (h3 : f ≠ "bound") : pickB (f :: fs) (d :: ds) = pickB fs ds := by
  simp only [pickB, if_neg h1, if_neg h2, if_neg h3, List.nil_append]
theorem b_free {d : PyData} {fs : List Str} {ds : List PyData} : pickB ("free" :: fs) (d :: ds) = (d, false) :: pickB fs ds := by
  simp only [pickB, if_neg (show ("free" : Str) ≠ "extra" by decide), if_pos, List.cons_append, List.nil_append]
theorem b_bound {d : PyData} {fs : List Str} {ds : List PyData} : pickB ("bound" :: fs) (d :: ds) = (d, true) :: pickB fs ds := by
  simp only [pickB, if_neg (show ("bound" : Str) ≠ "extra" by decide), if_neg (show ("bound" : Str) ≠ "free" by decide), if_pos, List.cons_append, List.nil_append]
theorem b_extra {xs : List PyData} {fs : List Str} {ds : List PyData} : pickB ("extra" :: fs) (.tuple xs :: ds) = xs.map (fun z => (z, false)) ++ pickB fs ds := by
  simp only [pickB, if_pos, items]
theorem b_nil : pickB [] [] = [] := rfl
theorem wb_leaf {zs : List Str} {x : PyData} (h : Leaf zs x) : withB x = [] := by
  cases h with
  | int i _ _ => rw [withB_of (fs := ["value"]) (by decide), b_no (by decide) (by decide) (by decide), b_nil]
  | let_ i _ _ => rw [withB_of (fs := ["position"]) (by decide), b_no (by decide) (by decide) (by decide), b_nil]
  | key => rw [withB_of (fs := []) (by decide), b_nil]
  | var z _ => rw [withB_of (fs := ["name"]) (by decide), b_no (by decide) (by decide) (by decide), b_nil]
theorem wb_cell {t v : Str} {x : PyData} : withB (.tuple [.str "cell", .str t, x, .str v]) = [(x, false)] := by
  rw [withB_of (fs := ["name", "free", "name"]) (by decide), b_no (by decide) (by decide) (by decide), b_free, b_no (by decide) (by decide) (by decide), b_nil]
theorem wb_if {x y z : PyData} : withB (.tuple [.str "if", x, y, z]) = [(x, false), (y, false), (z, false)] := by
  rw [withB_of (fs := ["free", "free", "free"]) (by decide), b_free, b_free, b_free, b_nil]
theorem wb_at {x y : PyData} : withB (.tuple [.str "at", x, y]) = [(x, false), (y, true)] := by
  rw [withB_of (fs := ["free", "bound"]) (by decide), b_free, b_bound, b_nil]
theorem wb_op {o : Str} {x y : PyData} (h : o ∈ opws) (h2 : o ≠ "at") : withB (.tuple [.str o, x, y]) = [(x, false), (y, false)] := by
  simp only [opws, List.mem_cons, List.not_mem_nil, or_false] at h
  rcases h with rfl | rfl | rfl | rfl | rfl | rfl
  · rw [withB_of (fs := ["free", "free"]) (by decide), b_free, b_free, b_nil]
  · rw [withB_of (fs := ["free", "free"]) (by decide), b_free, b_free, b_nil]
  · rw [withB_of (fs := ["free", "free"]) (by decide), b_free, b_free, b_nil]
  · rw [withB_of (fs := ["free", "free"]) (by decide), b_free, b_free, b_nil]
  · rw [withB_of (fs := ["free", "free"]) (by decide), b_free, b_free, b_nil]
  · exact absurd rfl h2
abbrev lastW : List Str := ["most", "first"]
/-- how many stand free behind the bound ones -/
def freeN (o : Str) : Nat := if o ∈ lastW then 1 else 0
theorem wb_agg {o t : Str} {xs ys : List PyData} (h : (o, ys.length) ∈ aggs) : withB (.tuple (.str o :: .str t :: .tuple xs :: ys)) = xs.map (fun z => (z, false)) ++ (ys.take (ys.length - freeN o)).map (fun z => (z, true)) ++ (ys.drop (ys.length - freeN o)).map (fun z => (z, false)) := by
  simp only [aggs, List.mem_cons, List.not_mem_nil, or_false, Prod.mk.injEq] at h
  rcases h with ⟨rfl, h⟩ | ⟨rfl, h⟩ | ⟨rfl, h⟩ | ⟨rfl, h⟩
  · match ys, h with
    | [_, _], _ =>
      rw [withB_of (fs := ["name", "extra", "bound", "bound"]) (by decide), b_no (by decide) (by decide) (by decide), b_extra, b_bound, b_bound, b_nil, show freeN "count" = 0 by decide]
      simp
  · match ys, h with
    | [_, _, _], _ =>
      rw [withB_of (fs := ["name", "extra", "bound", "bound", "bound"]) (by decide), b_no (by decide) (by decide) (by decide), b_extra, b_bound, b_bound, b_bound, b_nil, show freeN "sum" = 0 by decide]
      simp
  · match ys, h with
    | [_, _, _, _], _ =>
      rw [withB_of (fs := ["name", "extra", "bound", "bound", "bound", "free"]) (by decide), b_no (by decide) (by decide) (by decide), b_extra, b_bound, b_bound, b_bound, b_free, b_nil, show freeN "most" = 1 by decide]
      simp
  · match ys, h with
    | [_, _, _], _ =>
      rw [withB_of (fs := ["name", "extra", "bound", "bound", "free"]) (by decide), b_no (by decide) (by decide) (by decide), b_extra, b_bound, b_bound, b_free, b_nil, show freeN "first" = 1 by decide]
      simp
end K6

namespace K6
open PySem PySem.Spec PyProof.Rows L2 GR WX TX RZ
section
variable {P : Program} {w : World} {K : PySem.W.Frag} {mg : Str → Option Value} {base : Heap}
abbrev s_law_within : Stmt := topS 28
abbrev N_within : List Str := ["_law_thing", "_law_word", "_law_last", "_law_found", "_law_one"]
theorem sc_law_within : FnScope N_within ["_law_thing"] (defScope s_law_within) := ⟨rfl, rfl, rfl, by decide +kernel, rfl, by decide +kernel, by decide +kernel⟩
def sp_within (K : PySem.W.Frag) : Sp := fun vs H Q _ => ∃ (v : V) (x : PyData) (zs : List Str) (n : Nat), vs = [v] ∧ Dp K H v x ∧ Ex zs n x ∧ ∀ H' p us, Same H H' → H p = none → H' p = some (.lst us) → DpAll K H' us ((withB x).map taskD) → Q (.ref p) H'
abbrev leafW : List Str := ["int", "var", "key", "let"]
theorem Leaf.word {zs : List Str} {x : PyData} (h : Leaf zs x) : ∃ wd rest, x = .tuple (.str wd :: rest) ∧ wd ∈ leafW := by
  cases h <;> exact ⟨_, _, rfl, by decide⟩
theorem wb_leafw {zs : List Str} {n : Nat} {wd : Str} {rest : List PyData} (h : Ex zs n (.tuple (.str wd :: rest))) (hw : wd ∈ leafW) : withB (.tuple (.str wd :: rest)) = [] := by
  generalize hx : PyData.tuple (.str wd :: rest) = x at h ⊢
  cases h with
  | leaf n x h => exact wb_leaf h
  | cell n t v x h1 h2 h3 =>
    cases hx
    exact absurd hw (by decide)
  | op n o x y h1 h2 h3 =>
    cases hx
    simp only [opws, List.mem_cons, List.not_mem_nil, or_false] at h1
    rcases h1 with rfl | rfl | rfl | rfl | rfl | rfl <;> exact absurd hw (by decide)
  | iff n x y z h1 h2 h3 =>
    cases hx
    exact absurd hw (by decide)
  | agg n o t xs ys h1 h2 h3 h4 h5 =>
    cases hx
    have := (aggs_w h1).1
    simp only [aggW, List.mem_cons, List.not_mem_nil, or_false] at this
    rcases this with rfl | rfl | rfl | rfl <;> exact absurd hw (by decide)
theorem wb_other {zs : List Str} {n : Nat} {wd : Str} {rest : List PyData} (h : Ex zs n (.tuple (.str wd :: rest))) (h1' : wd ∉ aggW) (h2' : wd ≠ "at") (h3' : wd ≠ "cell") (h4' : wd ∉ leafW) : withB (.tuple (.str wd :: rest)) = rest.map (fun z => (z, false)) := by
  generalize hx : PyData.tuple (.str wd :: rest) = x at h ⊢
  cases h with
  | leaf n x h =>
    obtain ⟨w2, r2, e, hw⟩ := h.word
    rw [← hx] at e
    cases e
    exact absurd hw h4'
  | cell n t v x h1 h2 h3 =>
    cases hx
    exact absurd rfl h3'
  | op n o x y h1 h2 h3 =>
    cases hx
    exact wb_op h1 h2'
  | iff n x y z h1 h2 h3 =>
    cases hx
    exact wb_if
  | agg n o t xs ys h1 h2 h3 h4 h5 =>
    cases hx
    exact absurd (aggs_w h1).1 h1'
theorem Ex.at_of {zs : List Str} {n : Nat} {rest : List PyData} (h : Ex zs n (.tuple (.str "at" :: rest))) : ∃ x y, rest = [x, y] := by
  generalize hx : PyData.tuple (.str "at" :: rest) = x at h
  cases h with
  | leaf n x h => cases h <;> cases hx
  | cell n t v x h1 h2 h3 => cases hx
  | op n o x y h1 h2 h3 =>
    cases hx
    exact ⟨x, y, rfl⟩
  | iff n x y z h1 h2 h3 => cases hx
  | agg n o t xs ys h1 h2 h3 h4 h5 =>
    cases hx
    exact absurd (aggs_w h1).1 (by decide)
theorem Ex.cell_of {zs : List Str} {n : Nat} {rest : List PyData} (h : Ex zs n (.tuple (.str "cell" :: rest))) : ∃ t x v, rest = [.str t, x, .str v] := by
  generalize hx : PyData.tuple (.str "cell" :: rest) = x at h
  cases h with
  | leaf n x h => cases h <;> cases hx
  | cell n t v x h1 h2 h3 =>
    cases hx
    exact ⟨t, x, v, rfl⟩
  | op n o x y h1 h2 h3 =>
    cases hx
    exact absurd h1 (by decide)
  | iff n x y z h1 h2 h3 => cases hx
  | agg n o t xs ys h1 h2 h3 h4 h5 =>
    cases hx
    exact absurd (aggs_w h1).1 (by decide)
theorem ok_within {f : Addr} {fd : FuncData} {k : Nat} (F : Fun K "_law_within" "_law_within" s_law_within f fd) (mlen : mg "len" = none) (mint : mg "int" = none) : FnOk P w K mg base CX0 (k + 1) f fd ["_law_thing"] (sp_within K) := by
  have nd := sc_law_within.nd
  refine F.ok sc_law_within (fun vs H Q E h => ?_) (fun cdv A outer s H vs Q E hr h => ?_)
  · obtain ⟨v, x, zs, n, rfl, _⟩ := h
    rfl
  obtain ⟨v, x, zs, n, rfl, hd, he, q⟩ := h
  refine ⟨_, (pss_cons (ps_set (i := 1) nd rfl (.inl rfl) (pe_ix ix_tup (pv 0) pe_int (fun _ _ => rfl)))
      (pss_cons (ps_if (pt_cmpR op_in_seq (pv 1) (pe_tup (pa_cons pe_str (pa_cons pe_str (pa_cons pe_str (pa_cons pe_str pa_nil))))) (by rfl))
      (Evl.pss_cut (ps_set (i := 2) nd rfl (.inl rfl) (pe_op op_sub (pe_callB call_len_seq (by rfl) mlen PySem.boot_len (pa_cons (pv 0) pa_nil)) (pe_callTy call_int1 (by rfl) mint boot_int (pa_cons (pe_cmpR op_in_seq (pv 1) (pe_tup (pa_cons pe_str (pa_cons pe_str pa_nil))) (by rfl)) pa_nil))))
        (pss_cons (ps_set (i := 3) nd rfl (.inl rfl) (pe_op op_cat (pe_lc (own := [("_law_one", 4)]) rfl nd (pi_tup (pe_ix ix_tup (pv 0) pe_int (fun _ _ => rfl))) (blkOk_by (N := N_within) (sc := defScope s_law_within) (by decide +kernel)) (fun _ _ _ _ _ => (pg_name (i := 4) nd rfl (Or.inl rfl))) (fun _ _ _ _ _ => pts_nil) (fun _ _ _ _ _ => (pe_tup (pa_cons (pv 4) (pa_cons pe_bl pa_nil))))) (pe_lc (own := [("_law_one", 4)]) rfl nd (pi_tup (pe_slice sl_tup (pv 0) (po_some pe_int) (po_some (pv 2)))) (blkOk_by (N := N_within) (sc := defScope s_law_within) (by decide +kernel)) (fun _ _ _ _ _ => (pg_name (i := 4) nd rfl (Or.inl rfl))) (fun _ _ _ _ _ => pts_nil) (fun _ _ _ _ _ => (pe_tup (pa_cons (pv 4) (pa_cons pe_bl pa_nil)))))))
        (pss_one (ps_ret (pe_op op_cat (pv 3) (pe_lc (own := [("_law_one", 4)]) rfl nd (pi_tup (pe_slice sl_tup (pv 0) (po_some (pv 2)) po_none)) (blkOk_by (N := N_within) (sc := defScope s_law_within) (by decide +kernel)) (fun _ _ _ _ _ => (pg_name (i := 4) nd rfl (Or.inl rfl))) (fun _ _ _ _ _ => pts_nil) (fun _ _ _ _ _ => (pe_tup (pa_cons (pv 4) (pa_cons pe_bl pa_nil))))))))))
      pss_nil)
      (pss_cons (ps_if (pt_cmpR op_eq (pv 1) pe_str (nomark _))
      (pss_one (ps_ret (pe_lst (pa_cons (pe_tup (pa_cons (pe_ix ix_tup (pv 0) pe_int (fun _ _ => rfl)) (pa_cons pe_bl pa_nil))) (pa_cons (pe_tup (pa_cons (pe_ix ix_tup (pv 0) pe_int (fun _ _ => rfl)) (pa_cons pe_bl pa_nil))) pa_nil)))))
      pss_nil)
      (pss_cons (ps_if (pt_cmpR op_eq (pv 1) pe_str (nomark _))
      (pss_one (ps_ret (pe_lst (pa_cons (pe_tup (pa_cons (pe_ix ix_tup (pv 0) pe_int (fun _ _ => rfl)) (pa_cons pe_bl pa_nil))) pa_nil))))
      pss_nil)
      (pss_one (ps_ret (pe_ifExp (pt_cmpR op_in_seq (pv 1) (pe_tup (pa_cons pe_str (pa_cons pe_str (pa_cons pe_str (pa_cons pe_str pa_nil))))) (by rfl)) (pe_lst pa_nil) (pe_lc (own := [("_law_one", 4)]) rfl nd (pi_tup (pe_slice sl_tup (pv 0) (po_some pe_int) po_none)) (blkOk_by (N := N_within) (sc := defScope s_law_within) (by decide +kernel)) (fun _ _ _ _ _ => (pg_name (i := 4) nd rfl (Or.inl rfl))) (fun _ _ _ _ _ => pts_nil) (fun _ _ _ _ _ => (pe_tup (pa_cons (pv 4) (pa_cons pe_bl pa_nil)))))))))))), ?_⟩
  obtain ⟨wd, fs, rest, rfl, hft, hff⟩ := he.form
  have hfl := he.flat
  rw [flatD, flatDs, Bool.and_eq_true] at hfl
  have hfl2 := hfl.2
  cases hd with
  | tup hS hA =>
  cases hA with
  | @cons vw vs0 dw ds0 hw hA =>
  cases hw
  rename_i a
  have l0 := dpAll_len hA
  have hfs6 : fs.length ≤ 6 := (show ∀ p, p ∈ table → p.2.length ≤ 6 by decide) (wd, fs) hft
  have hr6 : rest.length ≤ 6 := by
    rw [← hff.len]
    exact hfs6
  refine ⟨.ref a, rfl, a, _, 0, .str wd, rfl, rfl, hS, at0, .str wd, rfl, small_le (show 4 ≤ 1000 by decide), fun p1 np1 => ?_⟩
  have s1 := same_upd (o := .tup [.str "count", .str "sum", .str "most", .str "first"]) np1
  have hp1 : SqT K (upd H p1 (.tup [.str "count", .str "sum", .str "most", .str "first"])) p1 (aggW.map V.str) := .inl (.inl upd_same)
  refine ⟨p1, aggW.map V.str, rfl, .inr hp1, rfl, flat_strs aggW, _, rfl, ?_⟩
  clear hp1
  revert s1
  generalize upd H p1 (.tup [.str "count", .str "sum", .str "most", .str "first"]) = H1
  intro s1
  rw [wanted_in]
  have hS1 := (KeepT.of s1).seqt hS
  have hA1 := dp_keepAll (KeepT.of s1) _ _ hfl2 hA
  -- a new list of pairs
  have fin : ∀ (H2 : Hp) (l : Addr) (us : List V), Same H1 H2 → H2 l = none → DpAll K (upd H2 l (.lst us)) us ((withB (.tuple (.str wd :: rest))).map taskD) → Q (.ref l) (upd H2 l (.lst us)) := fun H2 l us s2 nl hu =>
    q _ l us ((s1.trans s2).trans (same_upd nl)) ((s1.trans s2).free nl) upd_same hu
  have pair : ∀ (H2 : Hp) (u : V) (z : PyData) (b : Bool) (p : Addr), H2 p = none → Dp K H2 u z → flatD z = true → Dp K (upd H2 p (.tup [u, .bl b])) (.ref p) (taskD (z, b)) := fun H2 u z b p np hu hz =>
    .tup (.inl (.inl upd_same)) (.cons (dp_keep (KeepT.non np) _ _ hz hu) (.cons (.bl b) .nil))
  have ftask : ∀ (z : PyData) (b : Bool), flatD z = true → flatD (taskD (z, b)) = true := fun z b hz => by
    unfold taskD
    simp only [flatD, flatDs, hz, Bool.and_self]
  refine ite2 (fun e1 => ?_) (fun e1 => ?_)
  · -- an aggregate
    have e1 : wd ∈ aggW := by simpa using e1
    obtain ⟨m, t, xs, y, ys, hn, hrest, ht, ho, hx2, hxs, hy, hys⟩ := he.agg_of e1
    have hwb := wb_agg (t := t) (xs := xs) (ys := y :: ys) (by rw [List.length_cons]; exact ho)
    rw [hrest] at hA1 hfl2 fin
    rw [hwb] at fin
    simp only [flatDs, Bool.and_eq_true] at hfl2
    have fys : flatDs (y :: ys) = true := by
      rw [flatDs, hfl2.2.2.1, hfl2.2.2.2]
      rfl
    have fxs : flatDs xs = true := flat_all hxs
    cases hA1 with
    | @cons u1 us1 _ _ g1 hA1 =>
    cases hA1 with
    | @cons u2 uy _ _ g2 hA2 =>
    cases g2 with
    | @tup xa uxs _ hxa hxA =>
    have lxs := dpAll_len hxA
    have luy := dpAll_len hA2
    have hys4 := agg_len ho
    have hfree : freeN wd ≤ 1 := by
      unfold freeN
      split <;> omega
    have hkk : ∃ kk : Nat, kk = (y :: ys).length - freeN wd := ⟨_, rfl⟩
    obtain ⟨kk, hkk⟩ := hkk
    rw [← hkk] at fin
    rw [List.length_cons] at luy hkk
    refine ⟨fun σ' H' => σ' = [some (.ref a), some (.str wd), some (.int ((3 + kk : Nat) : Int)), none, none] ∧ Same H1 H', ?_, ?_⟩
    · refine ⟨.ref a, rfl, a, _, rfl, .inr hS1, .str wd, rfl, le2, fun p2 np2 => ⟨p2, lastW.map V.str, rfl, .inr (.inl (.inl upd_same)), rfl, flat_strs lastW, .inr ⟨_, rfl, _, _, rfl, rfl, ?_⟩⟩⟩
      refine ⟨?_, same_upd np2⟩
      have hlast : (((V.str wd :: u1 :: V.ref xa :: uy).length : Nat) : Int) - (if inV (.str wd) (lastW.map V.str) = true then 1 else 0) = ((3 + kk : Nat) : Int) := by
        rw [wanted_in]
        have : (if decide (wd ∈ lastW) = true then (1 : Int) else 0) = (freeN wd : Int) := by
          unfold freeN
          by_cases z : wd ∈ lastW <;> simp [z]
        rw [this]
        simp only [List.length_cons]
        omega
      exact congrArg (fun z => [some (V.ref a), some (V.str wd), some (V.int z), none, none]) hlast
    rintro σ' H2 ⟨rfl, s2⟩
    have hS2 := (KeepT.of s2).seqt hS1
    have hxa2 := (KeepT.of s2).seqt hxa
    have hxA2 := dp_keepAll (KeepT.of s2) _ _ fxs hxA
    have hA22 := dp_keepAll (KeepT.of s2) _ _ fys hA2
    have hlen3 : (V.str wd :: u1 :: V.ref xa :: uy).length = 3 + uy.length := by
      simp only [List.length_cons]
      omega
    have cut1 : cutV (V.str wd :: u1 :: V.ref xa :: uy) (some 3) (some ((3 + kk : Nat) : Int)) = uy.take kk := by
      have := cut_nat (xs := V.str wd :: u1 :: V.ref xa :: uy) (a := 3) (b := 3 + kk) (by omega) (by rw [hlen3]; omega)
      rw [show 3 + kk - 3 = kk by omega] at this
      exact this
    have cut2 : cutV (V.str wd :: u1 :: V.ref xa :: uy) (some ((3 + kk : Nat) : Int)) none = uy.drop kk := by
      unfold cutV
      rw [HT.sIx_none, HT.sIx_nat, hlen3, show min (3 + kk) (3 + uy.length) = 3 + kk by omega, show 3 + kk = kk + 3 by omega]
      show (uy.drop kk).take _ = _
      exact List.take_of_length_le (by rw [List.length_drop]; omega)
    refine ⟨.ref a, rfl, a, _, 2, .ref xa, rfl, rfl, hS2, at2, xa, rfl, ⟨_, hxa2⟩, fun D1 nD1 => ?_⟩
    refine walk_bodyW (xs := uxs) walk_tup (PInv K false H2 D1 xs) (PInv.start nD1) ?_ ?_ ?_
    · rintro i H' _ ⟨acc, hD, hacc, hdp, k⟩
      exact (KeepT.of k).seqt hxa2
    · rintro i u H' hu B
      exact ⟨rfl, yes_then ⟨u, rfl, B.step nD1 hxA2 fxs hu (by omega)⟩⟩
    rintro H3 ⟨acc1, hD1, hacc1, hdp1, s3⟩
    rw [lxs, List.take_length] at hdp1
    have ft1 : ∀ (l : List PyData) (b : Bool), flatDs l = true → flatDs (l.map fun z => taskD (z, b)) = true := fun l b hl => flatDs_of fun d hd => by
      obtain ⟨z, hz, rfl⟩ := List.mem_map.mp hd
      obtain ⟨j, hj⟩ := List.getElem?_of_mem hz
      exact ftask z b (flatDs_at hl hj)
    have hS3 := (KeepT.of s3).seqt hS2
    have hA3 := dp_keepAll (KeepT.of s3) _ _ fys hA22
    refine ⟨.ref a, rfl, 3, rfl, .int ((3 + kk : Nat) : Int), rfl, ((3 + kk : Nat) : Int), rfl, a, _, rfl, hS3, ?_, fun c nc => ?_⟩
    · rintro ⟨e, _⟩
      have : HT.sIx (V.str wd :: u1 :: V.ref xa :: uy).length 0 (some 3) = min 3 (V.str wd :: u1 :: V.ref xa :: uy).length := HT.sIx_nat _ _ 3
      rw [this, hlen3] at e
      omega
    rw [cut1]
    have s4 := same_upd (o := .tup (uy.take kk)) nc
    have hc4 : SqT K (upd H3 c (.tup (uy.take kk))) c (uy.take kk) := .inl (.inl upd_same)
    have hD14 := s4 _ _ hD1
    revert s4 hc4 hD14
    generalize upd H3 c (.tup (uy.take kk)) = H4
    intro s4 hc4 hD14
    have hA4 := dp_keepAll (KeepT.of s4) _ _ fys hA3
    refine ⟨c, rfl, ⟨_, hc4⟩, fun D2 nD2 => ?_⟩
    have lub : (uy.take kk).length ≤ 6 := by
      rw [List.length_take]
      omega
    refine walk_bodyW (xs := uy.take kk) walk_tup (PInv K true H4 D2 ((y :: ys).take kk)) (PInv.start nD2) ?_ ?_ ?_
    · rintro i H' _ ⟨acc, hD, hacc, hdp, k⟩
      exact (KeepT.of k).seqt hc4
    · rintro i u H' hu B
      exact ⟨rfl, yes_then ⟨u, rfl, B.step nD2 (dpAll_take kk hA4) (flatDs_take kk fys) hu (by omega)⟩⟩
    rintro H5 ⟨acc2, hD2, hacc2, hdp2, s5⟩
    have lt2 : ((y :: ys).take kk).length = (uy.take kk).length := by
      rw [List.length_take, List.length_take, List.length_cons]
      omega
    rw [← lt2, List.take_length] at hdp2
    have hD15 := s5 _ _ hD14
    refine ⟨D1, D2, acc1, acc2, rfl, rfl, hD15, hD2, ?_, fun l nl => ?_⟩
    · exact small_le (by omega)
    have s6 := same_upd (o := .lst (acc1 ++ acc2)) nl
    have hl6 : upd H5 l (.lst (acc1 ++ acc2)) l = some (.lst (acc1 ++ acc2)) := upd_same
    have hdp6 : DpAll K (upd H5 l (.lst (acc1 ++ acc2))) (acc1 ++ acc2) ((xs.map fun z => taskD (z, false)) ++ ((y :: ys).take kk).map fun z => taskD (z, true)) :=
      dpAll_append (dp_keepAll ((KeepT.of (s4.trans s5)).trans (KeepT.of s6)) _ _ (ft1 xs false fxs) hdp1) (dp_keepAll (KeepT.of s6) _ _ (ft1 _ true (flatDs_take kk fys)) hdp2)
    revert s6 hl6 hdp6
    generalize upd H5 l (.lst (acc1 ++ acc2)) = H6
    intro s6 hl6 hdp6
    have s36 := s4.trans (s5.trans s6)
    have hS6 := (KeepT.of s36).seqt hS3
    refine ⟨.ref l, rfl, .ref a, rfl, .int ((3 + kk : Nat) : Int), rfl, ((3 + kk : Nat) : Int), rfl, a, _, rfl, hS6, ?_, fun c2 nc2 => ?_⟩
    · rintro ⟨e, _⟩
      rw [HT.sIx_nat, hlen3] at e
      omega
    rw [cut2]
    have s7 := same_upd (o := .tup (uy.drop kk)) nc2
    have hc7 : SqT K (upd H6 c2 (.tup (uy.drop kk))) c2 (uy.drop kk) := .inl (.inl upd_same)
    have hl7 := s7 _ _ hl6
    have hdp7 := dp_keepAll (KeepT.of s7) _ _ (flatDs_append (ft1 xs false fxs) (ft1 _ true (flatDs_take kk fys))) hdp6
    revert s7 hc7 hl7 hdp7
    generalize upd H6 c2 (.tup (uy.drop kk)) = H7
    intro s7 hc7 hl7 hdp7
    have hA7 := dp_keepAll (KeepT.of (s36.trans s7)) _ _ fys hA3
    refine ⟨c2, rfl, ⟨_, hc7⟩, fun D3 nD3 => ?_⟩
    have luf : (uy.drop kk).length ≤ 6 := by
      rw [List.length_drop]
      omega
    refine walk_bodyW (xs := uy.drop kk) walk_tup (PInv K false H7 D3 ((y :: ys).drop kk)) (PInv.start nD3) ?_ ?_ ?_
    · rintro i H' _ ⟨acc, hD, hacc, hdp, k⟩
      exact (KeepT.of k).seqt hc7
    · rintro i u H' hu B
      exact ⟨rfl, yes_then ⟨u, rfl, B.step nD3 (dpAll_drop kk hA7) (flatDs_drop kk fys) hu (by omega)⟩⟩
    rintro H8 ⟨acc3, hD3, hacc3, hdp3, s8⟩
    have lt3 : ((y :: ys).drop kk).length = (uy.drop kk).length := by
      rw [List.length_drop, List.length_drop, List.length_cons]
      omega
    rw [← lt3, List.take_length] at hdp3
    have hl8 := s8 _ _ hl7
    refine ⟨l, D3, acc1 ++ acc2, acc3, rfl, rfl, hl8, hD3, ?_, fun l2 nl2 => ?_⟩
    · rw [List.length_append]
      exact small_le (by omega)
    have s18 : Same H1 H8 := s2.trans (s3.trans (s36.trans (s7.trans s8)))
    have f1 := flatDs_append (ft1 xs false fxs) (ft1 _ true (flatDs_take kk fys))
    refine fin H8 l2 _ s18 nl2 ?_
    have s9 := same_upd (o := .lst (acc1 ++ acc2 ++ acc3)) nl2
    have := dpAll_append (dp_keepAll (KeepT.of (s8.trans s9)) _ _ f1 hdp7) (dp_keepAll (KeepT.of s9) _ _ (ft1 _ false (flatDs_drop kk fys)) hdp3)
    rw [List.map_append, List.map_append, List.map_map, List.map_map, List.map_map]
    exact this
  · have e1 : wd ∉ aggW := fun z => e1 (by simpa using z)
    refine ⟨.str wd, rfl, rfl, _, rfl, ite2 (fun e2 => ?_) (fun e2 => ?_)⟩
    · -- at
      have e2 : wd = "at" := by simpa using e2
      subst e2
      obtain ⟨x, y, rfl⟩ := he.at_of
      cases hA1 with
      | @cons u1 us1 _ _ g1 hA1 =>
      cases hA1 with
      | @cons u2 us2 _ _ g2 hA1 =>
      cases hA1
      simp only [flatDs, Bool.and_eq_true] at hfl2
      refine ⟨.ref a, rfl, a, _, 1, u1, rfl, rfl, hS1, at1, le2, fun p2 np2 => ⟨.ref a, rfl, a, _, 2, u2, rfl, rfl, (KeepT.non np2).seqt hS1, at2, le2, fun p3 np3 => ⟨le2, fun l nl => ?_⟩⟩⟩
      have t1 := pair H1 u1 x false p2 np2 g1 hfl2.1
      have t2 := pair _ u2 y true p3 np3 (dp_keep (KeepT.non np2) _ _ hfl2.2.1 g2) hfl2.2.1
      refine fin _ l _ ((same_upd np2).trans (same_upd np3)) nl ?_
      rw [wb_at]
      exact .cons (dp_keep ((KeepT.non np3).trans (KeepT.non nl)) _ _ (ftask x false hfl2.1) t1) (.cons (dp_keep (KeepT.non nl) _ _ (ftask y true hfl2.2.1) t2) .nil)
    · have e2 : wd ≠ "at" := fun z => e2 (by simpa using z)
      refine ⟨.str wd, rfl, rfl, _, rfl, ite2 (fun e3 => ?_) (fun e3 => ?_)⟩
      · -- cell
        have e3 : wd = "cell" := by simpa using e3
        subst e3
        obtain ⟨t, x, v, rfl⟩ := he.cell_of
        cases hA1 with
        | @cons u1 us1 _ _ g1 hA1 =>
        cases hA1 with
        | @cons u2 us2 _ _ g2 hA1 =>
        simp only [flatDs, Bool.and_eq_true] at hfl2
        refine ⟨.ref a, rfl, a, _, 2, u2, rfl, rfl, hS1, at2, le2, fun p2 np2 => ⟨small_le (show 1 ≤ 1000 by decide), fun l nl => ?_⟩⟩
        have t1 := pair H1 u2 x false p2 np2 g2 hfl2.2.1
        refine fin _ l _ (same_upd np2) nl ?_
        rw [wb_cell]
        exact .cons (dp_keep (KeepT.non nl) _ _ (ftask x false hfl2.2.1) t1) .nil
      · have e3 : wd ≠ "cell" := fun z => e3 (by simpa using z)
        refine ⟨.str wd, rfl, small_le (show 4 ≤ 1000 by decide), fun p2 np2 => ?_⟩
        have s2 := same_upd (o := .tup [.str "int", .str "var", .str "key", .str "let"]) np2
        have hp2 : SqT K (upd H1 p2 (.tup [.str "int", .str "var", .str "key", .str "let"])) p2 (leafW.map V.str) := .inl (.inl upd_same)
        refine ⟨p2, leafW.map V.str, rfl, .inr hp2, rfl, flat_strs leafW, _, rfl, ?_⟩
        clear hp2
        revert s2
        generalize upd H1 p2 (.tup [.str "int", .str "var", .str "key", .str "let"]) = H2
        intro s2
        rw [wanted_in]
        refine ite2 (fun e4 => ?_) (fun e4 => ?_)
        · have e4 : wd ∈ leafW := by simpa using e4
          refine ⟨Nat.zero_le _, fun l nl => fin H2 l [] s2 nl ?_⟩
          rw [wb_leafw he e4]
          exact .nil
        · have e4 : wd ∉ leafW := fun z => e4 (by simpa using z)
          have hS2 := (KeepT.of s2).seqt hS1
          refine ⟨.ref a, rfl, 1, rfl, a, _, rfl, hS2, ?_, fun c nc => ?_⟩
          · rw [List.length_cons]
            rintro ⟨e, _⟩
            have : HT.sIx (vs0.length + 1) 0 (some 1) = min 1 (vs0.length + 1) := HT.sIx_nat _ _ 1
            rw [this] at e
            omega
          have hcut : cutV (.str wd :: vs0) (some 1) none = vs0 := by
            unfold cutV
            rw [HT.sIx_none, show HT.sIx (V.str wd :: vs0).length 0 (some 1) = min 1 (V.str wd :: vs0).length from HT.sIx_nat _ _ 1, List.length_cons, show min 1 (vs0.length + 1) = 1 by omega, List.drop_succ_cons, List.drop_zero, show vs0.length + 1 - 1 = vs0.length by omega, List.take_length]
          rw [hcut]
          have s3 := same_upd (o := .tup vs0) nc
          have hc3 : SqT K (upd H2 c (.tup vs0)) c vs0 := .inl (.inl upd_same)
          revert s3 hc3
          generalize upd H2 c (.tup vs0) = H3
          intro s3 hc3
          have hA3 := dp_keepAll (KeepT.of (s2.trans s3)) _ _ hfl2 hA1
          refine ⟨c, rfl, ⟨_, hc3⟩, fun D nD => ?_⟩
          refine walk_bodyW (xs := vs0) walk_tup (PInv K false H3 D rest) (PInv.start nD) ?_ ?_ ?_
          · rintro i H' _ ⟨acc, hD, hacc, hdp, kk⟩
            exact (KeepT.of kk).seqt hc3
          · rintro i u H' hu B
            exact ⟨rfl, yes_then ⟨u, rfl, B.step nD hA3 hfl2 hu (by omega)⟩⟩
          · rintro H' ⟨acc, hD, hacc, hdp, kk⟩
            rw [l0, List.take_length] at hdp
            refine q H' D acc ((s1.trans (s2.trans s3)).trans kk) ((s1.trans (s2.trans s3)).free nD) hD ?_
            rw [wb_other he e1 e2 e3 e4, List.map_map]
            exact hdp
end
end K6

namespace K6
open PySem PySem.Spec PyProof.Rows L2 GR WX TX RZ
/-- what the law's own put gives -/
def putS (o : PyData) (n : Nat) (t : Task) : PyData := if t.2 = true then t.1 else kd o n t.1
def inner (o : PyData) (n : Nat) (b : Bool) (x : PyData) : List PyData := (withB x).map fun t => putS o n (t.1, b || t.2)
theorem inner_true {zs : List Str} {o : PyData} {n m : Nat} {x : PyData} (h : Ex zs m x) : inner o n true x = kids x := by
  unfold inner
  rw [← withB_kids h]
  refine List.map_congr_left fun t _ => ?_
  unfold putS
  simp
theorem ref_no {f : Str} {d : PyData} {fs : List Str} {ds qs : List PyData} (h1 : f ≠ "extra") (h2 : f ≠ "free") : refill (f :: fs) (d :: ds) qs = d :: refill fs ds qs := by
  have e : takes f d = 0 := by
    unfold takes pick1
    rw [if_neg h1, if_neg (fun h => h2 (List.mem_singleton.mp h))]
    rfl
  rw [refill, e, List.drop_zero]
  unfold refill1
  rw [if_neg h1, if_neg h2]
theorem ref_free {d q : PyData} {fs : List Str} {ds qs : List PyData} : refill ("free" :: fs) (d :: ds) (q :: qs) = q :: refill fs ds qs := by
  have e : takes "free" d = 1 := by
    unfold takes pick1
    rw [if_neg (by decide), if_pos (by decide)]
    rfl
  rw [refill, e, List.drop_succ_cons, List.drop_zero]
  rfl
theorem ref_extra {xs ps : List PyData} {fs : List Str} {ds qs : List PyData} (h : ps.length = xs.length) : refill ("extra" :: fs) (.tuple xs :: ds) (ps ++ qs) = .tuple ps :: refill fs ds qs := by
  have e : takes "extra" (.tuple xs) = ps.length := by
    unfold takes pick1
    rw [if_pos rfl, items, h]
  rw [refill, e, List.drop_left]
  unfold refill1
  rw [if_pos rfl, items, ← h, List.take_left]
theorem ref_nil {qs : List PyData} : refill [] [] qs = [] := rfl
theorem f_no {f : Str} {d : PyData} {fs : List Str} {ds : List PyData} (h : f ≠ "extra") (h2 : f ∉ W1) : pick W1 (f :: fs) (d :: ds) = pick W1 fs ds := by
  simp only [pick, if_neg h, if_neg h2, List.nil_append]
theorem f_free {d : PyData} {fs : List Str} {ds : List PyData} : pick W1 ("free" :: fs) (d :: ds) = d :: pick W1 fs ds := by
  simp only [pick, if_neg (show ("free" : Str) ≠ "extra" by decide), if_pos (show ("free" : Str) ∈ W1 by decide), List.cons_append, List.nil_append]
theorem f_ex {xs : List PyData} {fs : List Str} {ds : List PyData} : pick W1 ("extra" :: fs) (.tuple xs :: ds) = xs ++ pick W1 fs ds := by
  simp only [pick, if_pos, items]
theorem f_nil : pick W1 [] [] = [] := rfl
theorem kd_open {zs : List Str} {o : PyData} {n : Nat} {w : Str} {fs : List Str} {rest : List PyData} (ht : (w, fs) ∈ table) (hk : w ≠ "key") (hne : pick W1 fs rest ≠ []) : kd o (n + 1) (.tuple (.str w :: rest)) = .tuple (.str w :: refill fs rest ((pick W1 fs rest).map (kd o n))) := by
  rw [kd, if_neg (show headW (.tuple (.str w :: rest)) ≠ "key" from hk), kidsF_of ht, if_neg]
  · show PyData.tuple (.str w :: refill (fieldsOf w) rest _) = _
    rw [show fieldsOf w = fs from fieldsOf_table (w, fs) ht]
  · cases h : pick W1 fs rest with
    | nil => exact absurd h hne
    | cons a b => exact Bool.false_ne_true
theorem kd_shut {o : PyData} {n : Nat} {w : Str} {fs : List Str} {rest : List PyData} (ht : (w, fs) ∈ table) (hk : w ≠ "key") (hne : pick W1 fs rest = []) : kd o (n + 1) (.tuple (.str w :: rest)) = .tuple (.str w :: rest) := by
  rw [kd, if_neg (show headW (.tuple (.str w :: rest)) ≠ "key" from hk), kidsF_of ht, hne]
  rfl
theorem put_cell {zs : List Str} {o : PyData} {n : Nat} {b : Bool} {t v : Str} {x : PyData} : putS o (n + 1) (.tuple [.str "cell", .str t, x, .str v], b) = .tuple [.str "cell", .str t, putS o n (x, b), .str v] := by
  unfold putS
  cases b with
  | true => rfl
  | false =>
    have e : pick W1 ["name", "free", "name"] [.str t, x, .str v] = [x] := by
      rw [f_no (by decide) (by decide), f_free, f_no (by decide) (by decide), f_nil]
    have := kd_open (zs := zs) (o := o) (n := n) (w := "cell") (fs := ["name", "free", "name"]) (rest := [.str t, x, .str v]) (by decide) (by decide) (by rw [e]; exact List.cons_ne_nil _ _)
    rw [e] at this
    simp only [Bool.false_eq_true, if_false]
    rw [this, List.map_cons, List.map_nil, ref_no (by decide) (by decide), ref_free, ref_no (by decide) (by decide), ref_nil]
theorem put_if {o : PyData} {n : Nat} {b : Bool} {x y z : PyData} : putS o (n + 1) (.tuple [.str "if", x, y, z], b) = .tuple [.str "if", putS o n (x, b), putS o n (y, b), putS o n (z, b)] := by
  unfold putS
  cases b with
  | true => rfl
  | false =>
    have e : pick W1 ["free", "free", "free"] [x, y, z] = [x, y, z] := by rw [f_free, f_free, f_free, f_nil]
    have := kd_open (zs := []) (o := o) (n := n) (w := "if") (fs := ["free", "free", "free"]) (rest := [x, y, z]) (by decide) (by decide) (by rw [e]; exact List.cons_ne_nil _ _)
    rw [e] at this
    simp only [Bool.false_eq_true, if_false]
    rw [this, List.map_cons, List.map_cons, List.map_cons, List.map_nil, ref_free, ref_free, ref_free, ref_nil]
theorem put_at {o : PyData} {n : Nat} {b : Bool} {x y : PyData} : putS o (n + 1) (.tuple [.str "at", x, y], b) = .tuple [.str "at", putS o n (x, b), y] := by
  unfold putS
  cases b with
  | true => rfl
  | false =>
    have e : pick W1 ["free", "bound"] [x, y] = [x] := by rw [f_free, f_no (by decide) (by decide), f_nil]
    have := kd_open (zs := []) (o := o) (n := n) (w := "at") (fs := ["free", "bound"]) (rest := [x, y]) (by decide) (by decide) (by rw [e]; exact List.cons_ne_nil _ _)
    rw [e] at this
    simp only [Bool.false_eq_true, if_false]
    rw [this, List.map_cons, List.map_nil, ref_free, ref_no (by decide) (by decide), ref_nil]
theorem put_op {o : PyData} {n : Nat} {b : Bool} {w : Str} {x y : PyData} (h : w ∈ opws) (h2 : w ≠ "at") : putS o (n + 1) (.tuple [.str w, x, y], b) = .tuple [.str w, putS o n (x, b), putS o n (y, b)] := by
  unfold putS
  cases b with
  | true => rfl
  | false =>
    have e : pick W1 ["free", "free"] [x, y] = [x, y] := by rw [f_free, f_free, f_nil]
    have ht : (w, (["free", "free"] : List Str)) ∈ table ∧ w ≠ "key" := by
      simp only [opws, List.mem_cons, List.not_mem_nil, or_false] at h
      rcases h with rfl | rfl | rfl | rfl | rfl | rfl
      · exact ⟨by decide, by decide⟩
      · exact ⟨by decide, by decide⟩
      · exact ⟨by decide, by decide⟩
      · exact ⟨by decide, by decide⟩
      · exact ⟨by decide, by decide⟩
      · exact absurd rfl h2
    have := kd_open (zs := []) (o := o) (n := n) (w := w) (fs := ["free", "free"]) (rest := [x, y]) ht.1 ht.2 (by rw [e]; exact List.cons_ne_nil _ _)
    rw [e] at this
    simp only [Bool.false_eq_true, if_false]
    rw [this, List.map_cons, List.map_cons, List.map_nil, ref_free, ref_free, ref_nil]
theorem put_agg {zs : List Str} {o : PyData} {n : Nat} {b : Bool} {w t : Str} {xs ys : List PyData} (h : (w, ys.length) ∈ aggs) : putS o (n + 1) (.tuple (.str w :: .str t :: .tuple xs :: ys), b) =
    .tuple (.str w :: .str t :: .tuple (xs.map fun z => putS o n (z, b)) :: (ys.take (ys.length - freeN w) ++ (ys.drop (ys.length - freeN w)).map fun z => putS o n (z, b))) := by
  unfold putS
  cases b with
  | true => simp
  | false =>
    simp only [Bool.false_eq_true, if_false]
    by_cases hx : xs = [] ∧ freeN w = 0
    · obtain ⟨rfl, h0⟩ := hx
      rw [h0]
      simp only [aggs, List.mem_cons, List.not_mem_nil, or_false, Prod.mk.injEq] at h
      rcases h with ⟨rfl, h⟩ | ⟨rfl, h⟩ | ⟨rfl, h⟩ | ⟨rfl, h⟩
      · match ys, h with
        | [p, q], _ =>
          rw [kd_shut (fs := ["name", "extra", "bound", "bound"]) (by decide) (by decide) (by rw [f_no (by decide) (by decide), f_ex, f_no (by decide) (by decide), f_no (by decide) (by decide), f_nil]; rfl)]
          rfl
      · match ys, h with
        | [p, q, r], _ =>
          rw [kd_shut (fs := ["name", "extra", "bound", "bound", "bound"]) (by decide) (by decide) (by rw [f_no (by decide) (by decide), f_ex, f_no (by decide) (by decide), f_no (by decide) (by decide), f_no (by decide) (by decide), f_nil]; rfl)]
          rfl
      · exact absurd h0 (by decide)
      · exact absurd h0 (by decide)
    · simp only [aggs, List.mem_cons, List.not_mem_nil, or_false, Prod.mk.injEq] at h
      rcases h with ⟨rfl, h⟩ | ⟨rfl, h⟩ | ⟨rfl, h⟩ | ⟨rfl, h⟩
      · match ys, h with
        | [p, q], _ =>
          have hx : xs ≠ [] := fun z => hx ⟨z, by decide⟩
          have e : pick W1 ["name", "extra", "bound", "bound"] [.str t, .tuple xs, p, q] = xs ++ [] := by rw [f_no (by decide) (by decide), f_ex, f_no (by decide) (by decide), f_no (by decide) (by decide), f_nil]
          rw [kd_open (zs := zs) (fs := ["name", "extra", "bound", "bound"]) (by decide) (by decide) (by rw [e, List.append_nil]; exact hx), e, List.map_append, ref_no (by decide) (by decide), ref_extra (List.length_map ..), ref_no (by decide) (by decide), ref_no (by decide) (by decide), ref_nil, show freeN "count" = 0 by decide]
          simp
      · match ys, h with
        | [p, q, r], _ =>
          have hx : xs ≠ [] := fun z => hx ⟨z, by decide⟩
          have e : pick W1 ["name", "extra", "bound", "bound", "bound"] [.str t, .tuple xs, p, q, r] = xs ++ [] := by rw [f_no (by decide) (by decide), f_ex, f_no (by decide) (by decide), f_no (by decide) (by decide), f_no (by decide) (by decide), f_nil]
          rw [kd_open (zs := zs) (fs := ["name", "extra", "bound", "bound", "bound"]) (by decide) (by decide) (by rw [e, List.append_nil]; exact hx), e, List.map_append, ref_no (by decide) (by decide), ref_extra (List.length_map ..), ref_no (by decide) (by decide), ref_no (by decide) (by decide), ref_no (by decide) (by decide), ref_nil, show freeN "sum" = 0 by decide]
          simp
      · match ys, h with
        | [p, q, r, u], _ =>
          have e : pick W1 ["name", "extra", "bound", "bound", "bound", "free"] [.str t, .tuple xs, p, q, r, u] = xs ++ [u] := by rw [f_no (by decide) (by decide), f_ex, f_no (by decide) (by decide), f_no (by decide) (by decide), f_no (by decide) (by decide), f_free, f_nil]
          rw [kd_open (zs := zs) (fs := ["name", "extra", "bound", "bound", "bound", "free"]) (by decide) (by decide) (by rw [e]; simp), e, List.map_append, ref_no (by decide) (by decide), ref_extra (List.length_map ..), ref_no (by decide) (by decide), ref_no (by decide) (by decide), ref_no (by decide) (by decide), List.map_cons, ref_free, List.map_nil, ref_nil, show freeN "most" = 1 by decide]
          simp
      · match ys, h with
        | [p, q, u], _ =>
          have e : pick W1 ["name", "extra", "bound", "bound", "free"] [.str t, .tuple xs, p, q, u] = xs ++ [u] := by rw [f_no (by decide) (by decide), f_ex, f_no (by decide) (by decide), f_no (by decide) (by decide), f_free, f_nil]
          rw [kd_open (zs := zs) (fs := ["name", "extra", "bound", "bound", "free"]) (by decide) (by decide) (by rw [e]; simp), e, List.map_append, ref_no (by decide) (by decide), ref_extra (List.length_map ..), ref_no (by decide) (by decide), ref_no (by decide) (by decide), List.map_cons, ref_free, List.map_nil, ref_nil, show freeN "first" = 1 by decide]
          simp
theorem put_leaf {zs : List Str} {o : PyData} {n : Nat} {b : Bool} {x : PyData} (h : Leaf zs x) (hk : headW x ≠ "key") : putS o (n + 1) (x, b) = x := by
  unfold putS
  cases b with
  | true => rfl
  | false =>
    simp only [Bool.false_eq_true, if_false]
    cases h with
    | int i _ _ => exact kd_shut (fs := ["value"]) (by decide) (by decide) (by rw [f_no (by decide) (by decide), f_nil])
    | let_ i _ _ => exact kd_shut (fs := ["position"]) (by decide) (by decide) (by rw [f_no (by decide) (by decide), f_nil])
    | key => exact absurd rfl hk
    | var z _ => exact kd_shut (fs := ["name"]) (by decide) (by decide) (by rw [f_no (by decide) (by decide), f_nil])
end K6

namespace K6
open PySem PySem.Spec PyProof.Rows L2 GR WX TX RZ
theorem lay_at : ∀ {l : List PyData}, PyData.canLayAll0 l = true → ∀ x, x ∈ l → x.canLay0 = true
  | y :: l, h, x, hx => by
    rw [PyData.canLayAll0, Bool.and_eq_true] at h
    rcases List.mem_cons.mp hx with rfl | hx
    · exact h.1
    · exact lay_at h.2 x hx
theorem depth_at : ∀ {l : List PyData} {x : PyData}, x ∈ l → x.depth ≤ PyData.depthAll l
  | y :: l, x, hx => by
    simp only [PyData.depthAll]
    rcases List.mem_cons.mp hx with rfl | hx
    · exact Nat.le_max_left ..
    · exact Nat.le_trans (depth_at hx) (Nat.le_max_right ..)
theorem refill_mem : ∀ {fs : List Str} {ds qs : List PyData} {z : PyData}, z ∈ refill fs ds qs → z ∈ ds ∨ z ∈ qs ∨ ∃ l, z = .tuple l ∧ ∀ y, y ∈ l → y ∈ qs
  | f :: fs, d :: ds, qs, z, h => by
    rw [refill] at h
    rcases List.mem_cons.mp h with rfl | h
    · unfold refill1
      split
      · exact .inr (.inr ⟨_, rfl, fun y hy => List.mem_of_mem_take hy⟩)
      · split
        · cases qs with
          | nil => exact .inl List.mem_cons_self
          | cons q qs => exact .inr (.inl List.mem_cons_self)
        · exact .inl List.mem_cons_self
    · rcases refill_mem h with h | h | ⟨l, rfl, h2⟩
      · exact .inl (List.mem_cons_of_mem _ h)
      · exact .inr (.inl (List.mem_of_mem_drop h))
      · exact .inr (.inr ⟨l, rfl, fun y hy => List.mem_of_mem_drop (h2 y hy)⟩)
  | [], _, _, _, h => by simp only [refill, List.not_mem_nil] at h
  | _ :: _, [], _, _, h => by simp only [refill, List.not_mem_nil] at h
theorem kd_lay {zs : List Str} {o : PyData} (hz : ∀ z, z ∈ zs → PyData.strOk z = true) (ho : o.canLay0 = true) : ∀ {n : Nat} {x : PyData}, Ex zs n x → (kd o n x).canLay0 = true ∧ (kd o n x).depth ≤ 2 * n + o.depth
  | 0, _, h => by cases h
  | n + 1, x, h => by
    have hl := lay_of hz h
    have hdp := depth_of h
    rw [kd]
    split
    · exact ⟨ho, by omega⟩
    · split
      · exact ⟨hl, by omega⟩
      · obtain ⟨wd, fs, rest, rfl, _, _⟩ := h.form
        have ih : ∀ z, z ∈ (kidsF (.tuple (.str wd :: rest))).map (kd o n) → z.canLay0 = true ∧ z.depth ≤ 2 * n + o.depth := fun z hz' => by
          obtain ⟨y, hy, rfl⟩ := List.mem_map.mp hz'
          exact kd_lay hz ho (h.kidsF y hy)
        rw [PyData.canLay0, PyData.canLayAll0, Bool.and_eq_true] at hl
        simp only [PyData.depth, PyData.depthAll] at hdp
        show (PyData.tuple (.str wd :: refill (fieldsOf wd) rest _)).canLay0 = true ∧ (PyData.tuple (.str wd :: refill (fieldsOf wd) rest _)).depth ≤ _
        have both : ∀ z, z ∈ refill (fieldsOf wd) rest ((kidsF (.tuple (.str wd :: rest))).map (kd o n)) → z.canLay0 = true ∧ z.depth ≤ 2 * n + o.depth + 1 := fun z hz' => by
          rcases refill_mem hz' with h | h | ⟨l, rfl, h⟩
          · have := depth_at h
            exact ⟨lay_at hl.2 z h, by omega⟩
          · exact ⟨(ih z h).1, by have := (ih z h).2; omega⟩
          · have d1 := depth_all fun y hy => (ih y (h y hy)).2
            refine ⟨?_, ?_⟩
            · rw [PyData.canLay0]
              exact lay_all fun y hy => (ih y (h y hy)).1
            · rw [PyData.depth]
              omega
        have dA := depth_all fun z hz' => (both z hz').2
        refine ⟨?_, ?_⟩
        · rw [PyData.canLay0, PyData.canLayAll0, hl.1, lay_all fun z hz' => (both z hz').1]
          rfl
        · simp only [PyData.depth, PyData.depthAll]
          omega
theorem putS_ok {zs : List Str} {o : PyData} {n : Nat} {b : Bool} {x : PyData} (hz : ∀ z, z ∈ zs → PyData.strOk z = true) (ho : o.canLay0 = true) (hf : flatD o = true) (h : Ex zs n x) : flatD (putS o n (x, b)) = true ∧ (putS o n (x, b)).canLay0 = true ∧ (putS o n (x, b)).depth ≤ 2 * n + o.depth := by
  unfold putS
  cases b with
  | true =>
    have := depth_of h
    exact ⟨h.flat, lay_of hz h, by show x.depth ≤ _; omega⟩
  | false =>
    have := kd_lay hz ho h
    exact ⟨flat_kd hf h, this.1, this.2⟩
/-- what the kids become -/
theorem inner_ok {zs : List Str} {o : PyData} {n : Nat} {b : Bool} {x : PyData} (hz : ∀ z, z ∈ zs → PyData.strOk z = true) (ho : o.canLay0 = true) (hf : flatD o = true) (h : Ex zs (n + 1) x) : ∀ d, d ∈ inner o n b x → flatD d = true ∧ d.canLay0 = true ∧ d.depth ≤ 2 * n + o.depth := by
  intro d hd
  unfold inner at hd
  obtain ⟨⟨z, c⟩, ht, rfl⟩ := List.mem_map.mp hd
  have : z ∈ kids x := by
    rw [← withB_kids h]
    exact List.mem_map.mpr ⟨(z, c), ht, rfl⟩
  exact putS_ok hz ho hf (h.kids.1 z this)
theorem inner_len {zs : List Str} {o : PyData} {n : Nat} {b : Bool} {x : PyData} (h : Ex zs (n + 1) x) : (inner o n b x).length ≤ 6 := by
  have := h.kids.2
  rw [← withB_kids h, List.length_map] at this
  unfold inner
  rw [List.length_map]
  exact this
end K6

namespace K6
open PySem PySem.Spec PyProof.Rows L2 GR WX TX RZ
section
variable {P : Program} {w : World} {K : PySem.W.Frag} {mg : Str → Option Value} {base : Heap}
abbrev s_law_put : Stmt := topS 30
abbrev N_put : List Str := ["_law_thing", "_law_other", "_law_bound", "_law_word", "_law_inner", "_law_many", "_law_one", "_law_binds"]
abbrev ps_put : List Str := ["_law_thing", "_law_other", "_law_bound"]
theorem sc_law_put : FnScope N_put ps_put (defScope s_law_put) := ⟨rfl, rfl, rfl, by decide +kernel, rfl, by decide +kernel, by decide +kernel⟩
def sp_put (K : PySem.W.Frag) (n : Nat) : Sp := fun vs H Q _ => ∃ (v vo : V) (x o : PyData) (zs : List Str) (b : Bool), vs = [v, vo, .bl b] ∧ Dp K H v x ∧ Ex zs n x ∧ Dp K H vo o ∧ flatD o = true ∧ o.canLay0 = true ∧ o.depth ≤ 20 ∧ (∀ z, z ∈ zs → PyData.strOk z = true) ∧ n ≤ 15 ∧
  ∀ H' v', Same H H' → Dp K H' v' (putS o n (x, b)) → Q v' H'
/-- the kids are being made into the list at D -/
def IInv (K : PySem.W.Frag) (H1 : Hp) (D : Addr) (l : List PyData) (i : Nat) (H : Hp) : Prop := ∃ acc, H D = some (.lst acc) ∧ acc.length = i ∧ DpAll K H acc (l.take i) ∧ Same H1 H
theorem put_other {zs : List Str} {o : PyData} {n m : Nat} {b : Bool} {wd : Str} {rest : List PyData} (h : Ex zs m (.tuple (.str wd :: rest))) (h1 : wd ∉ aggW) (h2 : wd ≠ "cell") (h3 : wd ∉ leafW) :
    putS o (n + 1) (.tuple (.str wd :: rest), b) = .tuple (.str wd :: inner o n b (.tuple (.str wd :: rest))) ∧ inner o n b (.tuple (.str wd :: rest)) ≠ [] := by
  generalize hx : PyData.tuple (.str wd :: rest) = x at h ⊢
  cases h with
  | leaf m x h =>
    obtain ⟨w2, r2, e, hw⟩ := h.word
    rw [← hx] at e
    cases e
    exact absurd hw h3
  | cell m t v x g1 g2 g3 =>
    cases hx
    exact absurd rfl h2
  | op m w' x y g1 g2 g3 =>
    cases hx
    by_cases e : wd = "at"
    · subst e
      unfold inner
      rw [wb_at, put_at]
      cases b <;> exact ⟨rfl, List.cons_ne_nil _ _⟩
    · unfold inner
      rw [wb_op g1 e, put_op g1 e]
      cases b <;> exact ⟨rfl, List.cons_ne_nil _ _⟩
  | iff m x y z g1 g2 g3 =>
    cases hx
    unfold inner
    rw [wb_if, put_if]
    cases b <;> exact ⟨rfl, List.cons_ne_nil _ _⟩
  | agg m w' t xs ys g1 g2 g3 g4 g5 =>
    cases hx
    exact absurd (aggs_w g1).1 h1
theorem ok_put_step {n : Nat} {f fw : Addr} {fd fdw : FuncData} {k : Nat} (F : Fun K "_law_put" "_law_put" s_law_put f fd) (Gw : FnOk P w K mg base CX0 k fw fdw ["_law_thing"] (sp_within K)) (gw : mg "_law_within" = some (.ref fw)) (Kw : PySem.W.keepIn K (.ref fw) = true) (bw : Binds K fdw ["_law_thing"] [])
    (G : FnOk P w K mg base CX0 k f fd ps_put (sp_put K n)) (g : mg "_law_put" = some (.ref f)) (Kf : PySem.W.keepIn K (.ref f) = true) (bf : Binds K fd ps_put []) (mlen : mg "len" = none) (mtuple : mg "tuple" = none) : FnOk P w K mg base CX0 (k + 1) f fd ps_put (sp_put K (n + 1)) := by
  have nd := sc_law_put.nd
  refine F.ok sc_law_put (fun vs H Q E h => ?_) (fun cdv A outer s H vs Q E hr h => ?_)
  · obtain ⟨v, vo, x, o, zs, b, rfl, _⟩ := h
    rfl
  obtain ⟨v, vo, x, o, zs, b, rfl, hd, he, hdo, hfo, hlo, hdpo, hz, hn, q⟩ := h
  refine ⟨_, (pss_cons (ps_set (i := 3) nd rfl (.inl rfl) (pe_ix ix_tup (pv 0) pe_int (fun _ _ => rfl)))
      (pss_cons (ps_if (pt_cmpR op_eq (pv 3) pe_str (nomark _))
      (pss_one (ps_ret (pe_ifExp (pt_val (pv 2)) (pv 0) (pv 1))))
      pss_nil)
      (pss_cons (ps_setLc (i := 4) (own := [("_law_one", 6), ("_law_binds", 7)]) (g := gTup K 2 (gCons (gName 6) (gCons (gName 7) gNil))) rfl nd rfl rfl (sw_true rfl rfl rfl (by decide +kernel)) (pi_list (pe_call Gw hr (by rfl) gw Kw bw .nil pass0 (pa_cons (pv 0) pa_nil))) (blkOk_by (N := N_put) (sc := defScope s_law_put) (by decide +kernel)) (fun _ _ _ _ _ => (pg_tup rfl (pgs_cons (pg_name (i := 6) (x := "_law_one") nd rfl (Or.inl rfl)) (pgs_cons (pg_name (i := 7) (x := "_law_binds") nd rfl (Or.inl rfl)) pgs_nil)))) (fun _ _ _ _ _ => pts_nil)
          (te := tCall (sp_put K n) [] E0 (tCons (tVar 6) (tCons (tVar 1) (tCons (tOrV (tVar 2) (tVar 7)) tNil)))) (fun _ _ _ _ _ => (pe_call G hr (by rfl) g Kf bf .nil pass0 (pa_cons (pv 6) (pa_cons (pv 1) (pa_cons (pe_or (pv 2) (pe_one (pv 7))) pa_nil))))))
      (pss_cons (ps_if (pt_cmpR op_eq (pv 3) pe_str (nomark _))
      (pss_one (ps_ret (pe_tup (pa_cons (pv 3) (pa_cons (pe_ix ix_tup (pv 0) pe_int (fun _ _ => rfl)) (pa_cons (pe_ix ix_list (pv 4) pe_int (fun _ _ => rfl)) (pa_cons (pe_ix ix_tup (pv 0) pe_int (fun _ _ => rfl)) pa_nil)))))))
      pss_nil)
      (pss_cons (ps_if (pt_cmpR op_in_seq (pv 3) (pe_tup (pa_cons pe_str (pa_cons pe_str (pa_cons pe_str (pa_cons pe_str pa_nil))))) (by rfl))
      (pss_cons (ps_set (i := 5) nd rfl (.inl rfl) (pe_callB call_len_seq (by rfl) mlen PySem.boot_len (pa_cons (pe_ix ix_tup (pv 0) pe_int (fun _ _ => rfl)) pa_nil)))
        (pss_one (ps_ret (pe_op op_catT (pe_tup (pa_cons (pv 3) (pa_cons (pe_ix ix_tup (pv 0) pe_int (fun _ _ => rfl)) (pa_cons (pe_callTy call_tuple_of (by rfl) mtuple boot_tuple (pa_cons (pe_slice sl_list (pv 4) po_none (po_some (pv 5))) pa_nil)) pa_nil)))) (pe_callTy call_tuple_of (by rfl) mtuple boot_tuple (pa_cons (pe_slice sl_list (pv 4) (po_some (pv 5)) po_none) pa_nil))))))
      pss_nil)
      (pss_one (ps_ret (pe_ifExp (pt_cmpR (op_eqD hr.units) (pv 4) (pe_lst pa_nil) (nomark _)) (pv 0) (pe_op op_catT (pe_tup (pa_cons (pv 3) pa_nil)) (pe_callTy call_tuple_of (by rfl) mtuple boot_tuple (pa_cons (pv 4) pa_nil))))))))))), ?_⟩
  obtain ⟨wd, fs, rest, rfl, hft, hff⟩ := he.form
  have hfl := he.flat
  have hio := inner_ok (b := b) hz hlo hfo he
  have hil := inner_len (o := o) (b := b) he
  have fin : flatDs (inner o n b (.tuple (.str wd :: rest))) = true := flatDs_of fun d hd => (hio d hd).1
  cases hd with
  | tup hS hA =>
  cases hA with
  | @cons vw vs0 dw ds0 hw hA =>
  cases hw
  rename_i a
  have hda : Dp K H (.ref a) (.tuple (.str wd :: rest)) := .tup hS (.cons (.str wd) hA)
  refine ⟨.ref a, rfl, a, _, 0, .str wd, rfl, rfl, hS, at0, .str wd, rfl, rfl, _, rfl, ite2 (fun e1 => ?_) (fun e1 => ?_)⟩
  · have e1 : wd = "key" := by simpa using e1
    refine ⟨.bl b, rfl, b, rfl, ?_⟩
    cases b with
    | true => exact iteT ⟨.ref a, rfl, q H _ (fun _ _ e => e) hda⟩
    | false =>
      refine iteF ⟨vo, rfl, q H _ (fun _ _ e => e) ?_⟩
      have : putS o (n + 1) (.tuple (.str wd :: rest), false) = o := by
        unfold putS
        simp only [Bool.false_eq_true, if_false]
        rw [kd, if_pos (show headW (.tuple (.str wd :: rest)) = "key" from e1)]
      rw [this]
      exact hdo
  · have e1 : wd ≠ "key" := fun z => e1 (by simpa using z)
    refine ⟨.ref a, rfl, .ref a, _, zs, n + 1, rfl, hda, he, fun H1 p us s1 np hp hu => ⟨p, rfl, ⟨us, .inl (.inl hp)⟩, fun D nD => ?_⟩⟩
    have lu := dpAll_len hu
    rw [List.length_map] at lu
    have li : (inner o n b (.tuple (.str wd :: rest))).length = us.length := by
      rw [lu]
      unfold inner
      rw [List.length_map]
    refine walk_body (xs := us) (IInv K H1 D (inner o n b (.tuple (.str wd :: rest)))) ?_ ?_ ?_ ?_
    · refine ⟨[], upd_same, rfl, ?_, same_upd nD⟩
      rw [List.take_zero]
      exact .nil
    · rintro i H' _ ⟨acc, hD, hacc, hdp, kk⟩
      exact .inl (.inl (kk _ _ hp))
    · rintro i u H' hui ⟨acc, hD, hacc, hdp, kk⟩
      obtain ⟨d, hdi, hud⟩ := dpAll_at hu hui
      rw [List.getElem?_map] at hdi
      obtain ⟨⟨z, c⟩, hti, rfl⟩ : ∃ t, (withB (.tuple (.str wd :: rest)))[i]? = some t ∧ d = taskD t := by
        cases e : (withB (.tuple (.str wd :: rest)))[i]? with
        | none =>
          rw [e] at hdi
          cases hdi
        | some t =>
          rw [e] at hdi
          cases hdi
          exact ⟨t, rfl, rfl⟩
      have hin : (inner o n b (.tuple (.str wd :: rest)))[i]? = some (putS o n (z, b || c)) := by
        unfold inner
        rw [List.getElem?_map, hti]
        rfl
      have zk : z ∈ kids (.tuple (.str wd :: rest)) := by
        rw [← withB_kids he]
        exact List.mem_map.mpr ⟨(z, c), List.mem_of_getElem? hti, rfl⟩
      have ez := he.kids.1 z zk
      have hud2 := dp_keep (KeepT.of kk) _ _ (flat_task (t := (z, c)) ez) hud
      have hi : i < us.length := (List.getElem?_eq_some_iff.mp hui).1
      unfold taskD at hud2
      cases hud2 with
      | tup hS2 hB =>
      cases hB with
      | cons hv1 hB =>
      cases hB with
      | cons hv2 hB =>
      cases hB
      cases hv2
      rename_i tt v1
      have hdo2 := dp_keep (KeepT.of (s1.trans kk)) _ _ hfo hdo
      have put1 : ∀ H2 v', Same H' H2 → Dp K H2 v' (putS o n (z, b || c)) → ∃ acc, H2 D = some (.lst acc) ∧ acc.length < sizeLine ∧ IInv K H1 D (inner o n b (.tuple (.str wd :: rest))) (i + 1) (upd H2 D (.lst (acc ++ [v']))) := fun H2 v' s2 hv' => by
        have hD2 := s2 _ _ hD
        have k2 : KeepT H2 (upd H2 D (.lst (acc ++ [v']))) := KeepT.lst hD2
        refine ⟨acc, hD2, small1000 (by omega), acc ++ [v'], upd_same, by rw [List.length_append, hacc]; rfl, ?_, fun c ob e => ?_⟩
        · rw [take_snoc hin]
          exact dpAll_append (dp_keepAll ((KeepT.of s2).trans k2) _ _ (flatDs_take i fin) hdp) (.cons (dp_keep k2 _ _ (flatDs_at fin hin) hv') .nil)
        · rw [upd_ne (ne_of_none e nD)]
          exact s2 _ _ (kk _ _ e)
      refine ⟨tt, [v1, .bl c], rfl, hS2, rfl, _, _, rfl, _, _, rfl, rfl, rfl, yes_then ⟨v1, rfl, vo, rfl, .bl b, rfl, b, rfl, ?_⟩⟩
      cases b with
      | true => exact iteT ⟨v1, vo, z, o, zs, true, rfl, hv1, ez, hdo2, hfo, hlo, hdpo, hz, by omega, fun H2 v' s2 hv' => put1 H2 v' s2 hv'⟩
      | false => exact iteF ⟨.bl c, rfl, v1, vo, z, o, zs, c, rfl, hv1, ez, hdo2, hfo, hlo, hdpo, hz, by omega, fun H2 v' s2 hv' => put1 H2 v' s2 hv'⟩
    · rintro H2 ⟨acc, hD, hacc, hdp, kk⟩
      rw [← li, List.take_length] at hdp
      have lacc := dpAll_len hdp
      have sH := s1.trans kk
      have hS2 := (KeepT.of sH).seqt hS
      rw [flatD, flatDs, Bool.and_eq_true] at hfl
      have hfl2 := hfl.2
      have hA2 := dp_keepAll (KeepT.of sH) _ _ hfl2 hA
      have hda2 : Dp K H2 (.ref a) (.tuple (.str wd :: rest)) := .tup hS2 (.cons (.str wd) hA2)
      refine ⟨.str wd, rfl, rfl, _, rfl, ite2 (fun e2 => ?_) (fun e2 => ?_)⟩
      · -- cell
        have e2 : wd = "cell" := by simpa using e2
        subst e2
        obtain ⟨t, x, v, rfl⟩ := he.cell_of
        cases hA2 with
        | @cons u1 us1 _ _ g1 hA2 =>
        cases g1
        cases hA2 with
        | @cons u2 us2 _ _ g2 hA2 =>
        cases hA2 with
        | @cons u3 us3 _ _ g3 hA2 =>
        cases g3
        cases hA2
        have hin : inner o n b (.tuple [.str "cell", .str t, x, .str v]) = [putS o n (x, b)] := by
          unfold inner
          rw [wb_cell]
          simp
        rw [hin] at hdp fin
        cases hdp with
        | cons gd hdp =>
        cases hdp
        rename_i w0
        simp only [flatDs, Bool.and_eq_true] at fin
        refine ⟨.str "cell", rfl, .ref a, rfl, a, _, 1, .str t, rfl, rfl, hS2, at1, .ref D, rfl, D, _, 0, w0, rfl, rfl, .inl (.inl hD), at0, .ref a, rfl, a, _, 3, .str v, rfl, rfl, hS2, at3, small_le (show 4 ≤ 1000 by decide), fun r nr => ?_⟩
        have s3 := same_upd (o := .tup [.str "cell", .str t, w0, .str v]) nr
        refine q _ _ (sH.trans s3) ?_
        rw [put_cell (zs := zs)]
        exact .tup (.inl (.inl upd_same)) (.cons (.str _) (.cons (.str t) (.cons (dp_keep (KeepT.of s3) _ _ fin.1 gd) (.cons (.str v) .nil))))
      · have e2 : wd ≠ "cell" := fun z => e2 (by simpa using z)
        refine ⟨.str wd, rfl, small_le (show 4 ≤ 1000 by decide), fun p2 np2 => ?_⟩
        have s3 := same_upd (o := .tup [.str "count", .str "sum", .str "most", .str "first"]) np2
        have hp3 : SqT K (upd H2 p2 (.tup [.str "count", .str "sum", .str "most", .str "first"])) p2 (aggW.map V.str) := .inl (.inl upd_same)
        refine ⟨p2, aggW.map V.str, rfl, .inr hp3, rfl, flat_strs aggW, _, rfl, ?_⟩
        clear hp3
        revert s3
        generalize upd H2 p2 (.tup [.str "count", .str "sum", .str "most", .str "first"]) = H3
        intro s3
        rw [wanted_in]
        have hD3 := s3 _ _ hD
        have hdp3 := dp_keepAll (KeepT.of s3) _ _ fin hdp
        have hS3 := (KeepT.of s3).seqt hS2
        have hA3 := dp_keepAll (KeepT.of s3) _ _ hfl2 hA2
        have hda3 : Dp K H3 (.ref a) (.tuple (.str wd :: rest)) := .tup hS3 (.cons (.str wd) hA3)
        have sH3 := sH.trans s3
        refine ite2 (fun e3 => ?_) (fun e3 => ?_)
        · -- an aggregate
          have e3 : wd ∈ aggW := by simpa using e3
          obtain ⟨m, t, xs, y, ys, hn', hrest, ht, ho, hx2, hxs, hy, hys⟩ := he.agg_of e3
          subst hrest
          have hag : (wd, (y :: ys).length) ∈ aggs := by
            rw [List.length_cons]
            exact ho
          have hput := put_agg (zs := zs) (o := o) (n := n) (b := b) (t := t) (xs := xs) hag
          have hin : inner o n b (.tuple (.str wd :: .str t :: .tuple xs :: y :: ys)) = (xs.map fun z => putS o n (z, b)) ++ ((y :: ys).take ((y :: ys).length - freeN wd) ++ ((y :: ys).drop ((y :: ys).length - freeN wd)).map fun z => putS o n (z, b)) := by
            unfold inner
            rw [wb_agg hag, List.map_append, List.map_append, List.map_map, List.map_map, List.map_map, List.append_assoc]
            congr 1
            · refine List.map_congr_left fun z _ => ?_
              show putS o n (z, b || false) = _
              rw [Bool.or_false]
            · congr 1
              · refine (List.map_congr_left fun z _ => ?_).trans (List.map_id _)
                show putS o n (z, b || true) = _
                rw [Bool.or_true]
                rfl
              · refine List.map_congr_left fun z _ => ?_
                show putS o n (z, b || false) = _
                rw [Bool.or_false]
          cases hA3 with
          | @cons u1 us1 _ _ g1 hA3 =>
          cases g1
          cases hA3 with
          | @cons u2 us2 _ _ g2 hA3 =>
          cases g2 with
          | @tup xa uxs _ hxa hxA =>
          have lxs := dpAll_len hxA
          have hiT : (inner o n b (.tuple (.str wd :: .str t :: .tuple xs :: y :: ys))).take uxs.length = xs.map fun z => putS o n (z, b) := by
            rw [hin, lxs]
            exact List.take_left' (List.length_map ..)
          have hiD : (inner o n b (.tuple (.str wd :: .str t :: .tuple xs :: y :: ys))).drop uxs.length = (y :: ys).take ((y :: ys).length - freeN wd) ++ ((y :: ys).drop ((y :: ys).length - freeN wd)).map fun z => putS o n (z, b) := by
            rw [hin, lxs]
            exact List.drop_left' (List.length_map ..)
          have lti : uxs.length < acc.length := by
            rw [lacc, hin, List.length_append, List.length_map, List.length_append, List.length_map, List.length_take, List.length_drop, lxs, List.length_cons]
            omega
          have cutA : cutV acc none (some (uxs.length : Int)) = acc.take uxs.length := by
            unfold cutV
            rw [HT.sIx_none, HT.sIx_nat, List.drop_zero, Nat.sub_zero, show min uxs.length acc.length = uxs.length by omega]
          have cutB : cutV acc (some (uxs.length : Int)) none = acc.drop uxs.length := by
            unfold cutV
            rw [HT.sIx_none, HT.sIx_nat, show min uxs.length acc.length = uxs.length by omega]
            exact List.take_of_length_le (by rw [List.length_drop]; exact Nat.le_refl _)
          refine ⟨.ref a, rfl, a, _, 2, .ref xa, rfl, rfl, hS3, at2, xa, uxs, rfl, .inr hxa, .str wd, rfl, .ref a, rfl, a, _, 1, .str t, rfl, rfl, hS3, at1, .ref D, rfl, .int (uxs.length : Int), rfl, (uxs.length : Int), rfl, D, acc, rfl, .inl (.inl hD3), fun q1 nq1 => ?_⟩
          rw [cutA]
          have s4 := same_upd (o := .lst (acc.take uxs.length)) nq1
          refine ⟨q1, _, rfl, .inl ⟨.inl (.inl upd_same), fun q2 nq2 => ⟨small_le (show 3 ≤ 1000 by decide), fun q3 nq3 => ?_⟩⟩⟩
          have s5 := same_upd (o := .tup (acc.take uxs.length)) nq2
          have s6 := same_upd (o := .tup [.str wd, .str t, .ref q2]) nq3
          have s46 := s4.trans (s5.trans s6)
          have h2 := s6 _ _ (show upd (upd H3 q1 (.lst (acc.take uxs.length))) q2 (.tup (acc.take uxs.length)) q2 = _ from upd_same)
          have h3 : upd (upd (upd H3 q1 (.lst (acc.take uxs.length))) q2 (.tup (acc.take uxs.length))) q3 (.tup [.str wd, .str t, .ref q2]) q3 = some (.tup [.str wd, .str t, .ref q2]) := upd_same
          revert s46 h2 h3
          generalize upd (upd (upd H3 q1 (.lst (acc.take uxs.length))) q2 (.tup (acc.take uxs.length))) q3 (.tup [.str wd, .str t, .ref q2]) = H6
          intro s46 h2 h3
          refine ⟨.ref D, rfl, .int (uxs.length : Int), rfl, (uxs.length : Int), rfl, D, acc, rfl, .inl (.inl (s46 _ _ hD3)), fun q4 nq4 => ?_⟩
          rw [cutB]
          have s7 := same_upd (o := .lst (acc.drop uxs.length)) nq4
          refine ⟨q4, _, rfl, .inl ⟨.inl (.inl upd_same), fun q5 nq5 => ?_⟩⟩
          have s8 := same_upd (o := .tup (acc.drop uxs.length)) nq5
          have s78 := s7.trans s8
          refine ⟨q3, q5, _, _, rfl, rfl, .inl (.inl (s78 _ _ h3)), .inl (.inl upd_same), List.cons_ne_nil _ _, ?_, fun e => ?_, fun _ r nr => ?_⟩
          · rw [List.length_drop]
            exact small_le (by show 3 + _ ≤ 1000; omega)
          · have := congrArg List.length e
            rw [List.length_drop] at this
            simp only [List.length_nil] at this
            omega
          · have s9 := same_upd (o := .tup ([.str wd, .str t, .ref q2] ++ acc.drop uxs.length)) nr
            refine q _ _ (sH3.trans (s46.trans (s78.trans s9))) ?_
            rw [hput]
            have hall := dp_keepAll (KeepT.of (s46.trans (s78.trans s9))) _ _ fin hdp3
            have hT := dpAll_take uxs.length hall
            have hDr := dpAll_drop uxs.length hall
            rw [hiT] at hT
            rw [hiD] at hDr
            exact .tup (.inl (.inl upd_same)) (.cons (.str wd) (.cons (.str t) (.cons (.tup (.inl (.inl (s9 _ _ (s78 _ _ h2)))) hT) hDr)))
        · have e3 : wd ∉ aggW := fun z => e3 (by simpa using z)
          refine ⟨.ref D, rfl, Nat.zero_le _, fun em nem => ?_⟩
          have s4 := same_upd (o := .lst []) nem
          have hD4 := s4 _ _ hD3
          have hdp4 := dp_keepAll (KeepT.of s4) _ _ fin hdp3
          have hshape : SeqAt.shaped (.list (inner o n b (.tuple (.str wd :: rest)))) = true := by
            have d1 := depth_all fun d hd => (hio d hd).2.2
            unfold SeqAt.shaped
            simp only [PyData.canLay0, PyData.depth, lay_all fun d hd => (hio d hd).2.1, Bool.true_and]
            exact decide_eq_true (by omega)
          refine ⟨.list (inner o n b (.tuple (.str wd :: rest))), .list [], .lst (.inl (.inl hD4)) hdp4, .lst (.inl (.inl upd_same)) .nil, hshape, by decide +kernel, _, rfl, ?_⟩
          generalize hH4 : upd H3 em (.lst []) = H4 at s4 hD4 hdp4 ⊢
          by_cases hl : wd ∈ leafW
          · have hi0 : inner o n b (.tuple (.str wd :: rest)) = [] := by
              unfold inner
              rw [wb_leafw he hl]
              rfl
            rw [hi0]
            refine iteT ⟨.ref a, rfl, q _ _ (sH3.trans s4) ?_⟩
            have hx : putS o (n + 1) (.tuple (.str wd :: rest), b) = .tuple (.str wd :: rest) := by
              unfold putS
              cases b with
              | true => rfl
              | false =>
                simp only [Bool.false_eq_true, if_false]
                refine kd_shut hft e1 ?_
                rw [← kidsF_of hft]
                have h1 := kidsF_sub (.tuple (.str wd :: rest))
                have h2 := withB_kids he
                rw [wb_leafw he hl] at h2
                rw [← h2] at h1
                exact List.eq_nil_of_sublist_nil h1
            rw [hx]
            exact dp_keep (KeepT.of s4) _ _ (by rw [flatD, flatDs, hfl2]; rfl) hda3
          · obtain ⟨hput, hne⟩ := put_other (o := o) (n := n) (b := b) he e3 e2 hl
            have heq : PyData.eqv (.list (inner o n b (.tuple (.str wd :: rest)))) (.list []) = false := by
              cases hi : inner o n b (.tuple (.str wd :: rest)) with
              | nil => exact absurd hi hne
              | cons c cs => simp only [PyData.eqv, PyData.eqvAll]
            rw [heq]
            refine iteF ⟨.str wd, rfl, small_le (show 1 ≤ 1000 by decide), fun p5 np5 => ?_⟩
            have s5 := same_upd (o := .tup [.str wd]) np5
            refine ⟨.ref D, rfl, D, acc, rfl, .inl ⟨.inl (.inl (s5 _ _ hD4)), fun p6 np6 => ?_⟩⟩
            have s6 := same_upd (o := .tup acc) np6
            have h5 := s6 _ _ (show upd H4 p5 (.tup [.str wd]) p5 = _ from upd_same)
            refine ⟨p5, p6, _, _, rfl, rfl, .inl (.inl h5), .inl (.inl upd_same), List.cons_ne_nil _ _, ?_, fun e => ?_, fun _ r nr => ?_⟩
            · rw [lacc]
              exact small_le (by show 1 + _ ≤ 1000; omega)
            · rw [e] at lacc
              exact absurd (List.eq_nil_of_length_eq_zero lacc.symm) hne
            · have s7 := same_upd (o := .tup ([.str wd] ++ acc)) nr
              refine q _ _ (sH3.trans (s4.trans (s5.trans (s6.trans s7)))) ?_
              rw [hput]
              exact .tup (.inl (.inl upd_same)) (.cons (.str wd) (dp_keepAll (KeepT.of (s5.trans (s6.trans s7))) _ _ fin hdp4))
end
end K6

namespace K6
open PySem PySem.Spec PyProof.Rows L2 GR WX TX RZ
section
variable {P : Program} {w : World} {K : PySem.W.Frag} {mg : Str → Option Value} {base : Heap}
theorem ok_puts {f fw : Addr} {fd fdw : FuncData} {k : Nat} (F : Fun K "_law_put" "_law_put" s_law_put f fd) (Gw : FnOk P w K mg base CX0 k fw fdw ["_law_thing"] (sp_within K)) (gw : mg "_law_within" = some (.ref fw)) (Kw : PySem.W.keepIn K (.ref fw) = true) (bw : Binds K fdw ["_law_thing"] [])
    (g : mg "_law_put" = some (.ref f)) (Kf : PySem.W.keepIn K (.ref f) = true) (bf : Binds K fd ps_put []) (mlen : mg "len" = none) (mtuple : mg "tuple" = none) : ∀ n : Nat, FnOk P w K mg base CX0 (k + n) f fd ps_put (sp_put K n)
  | 0 => ok_none fun vs H Q E ⟨v, vo, x, o, zs, b, _, _, h, _⟩ => by cases h
  | n + 1 => ok_put_step (k := k + n) F (Gw.mono (Nat.le_add_right k n)) gw Kw bw (ok_puts F Gw gw Kw bw g Kf bf mlen mtuple n) g Kf bf mlen mtuple
/-! ### the law's own look -/
/-- what one part says: plain, closed, simple -/
def say (t : Task) : Bool × Bool × Bool := (plainP t.1, !(decide (headW t.1 = "var") || (decide (headW t.1 = "key") && !t.2)), simpleP t.1)
/-- the parts with their flags, each with its own behind it -/
def flagP : Nat → Task → List Task
  | 0, _ => []
  | n + 1, t => t :: (withB t.1).flatMap fun c => flagP n (c.1, t.2 || c.2)
theorem flagP_parts {zs : List Str} : ∀ {n : Nat} {x : PyData} {b : Bool}, Ex zs n x → (flagP n (x, b)).map (·.1) = flatP n x
  | 0, _, _, h => by cases h
  | n + 1, x, b, h => by
    simp only [flagP, flatP, List.map_cons, List.map_flatMap]
    congr 1
    rw [← withB_kids h, List.flatMap_map]
    refine flatMap_congr fun c hc => ?_
    have : c.1 ∈ kids x := by
      rw [← withB_kids h]
      exact List.mem_map.mpr ⟨c, hc, rfl⟩
    exact flagP_parts (h.kids.1 c.1 this)
/-- a key without a flag is a free key -/
def openK (t : Task) : Bool := decide (headW t.1 = "key") && !t.2
theorem open_true {zs : List Str} : ∀ {n : Nat} {x : PyData}, Ex zs n x → (flagP n (x, true)).any openK = false
  | 0, _, h => by cases h
  | n + 1, x, h => by
    simp only [flagP, List.any_cons, List.any_flatMap]
    have : openK (x, true) = false := by
      unfold openK
      simp
    rw [this, Bool.false_or, List.any_eq_false]
    intro c hc
    have hk : c.1 ∈ kids x := by
      rw [← withB_kids h]
      exact List.mem_map.mpr ⟨c, hc, rfl⟩
    have e := open_true (h.kids.1 c.1 hk)
    show ¬ (flagP n (c.1, true || c.2)).any openK = true
    rw [Bool.true_or, e]
    exact Bool.false_ne_true
theorem open_free {zs : List Str} : ∀ {n : Nat} {x : PyData}, Ex zs n x → (flagP n (x, false)).any openK = freeKey n x
  | 0, _, h => by cases h
  | n + 1, x, h => by
    simp only [flagP, List.any_cons, List.any_flatMap, freeKey]
    have : openK (x, false) = decide (headW x = "key") := by
      unfold openK
      simp
    rw [this]
    congr 1
    rw [← withB_free h, List.any_map]
    have key : ∀ l : List Task, (∀ c, c ∈ l → Ex zs n c.1) → (l.any fun c => (flagP n (c.1, false || c.2)).any openK) = (l.filter fun t => !t.2).any fun c => freeKey n c.1 := by
      intro l
      induction l with
      | nil => intro _; rfl
      | cons c l ih =>
        intro hl
        have ec := hl c List.mem_cons_self
        have ihl := ih fun d hd => hl d (List.mem_cons_of_mem _ hd)
        obtain ⟨z, b⟩ := c
        cases b with
        | true =>
          rw [List.any_cons, List.filter_cons_of_neg (by simp), ← ihl]
          show ((flagP n (z, true)).any openK || _) = _
          rw [open_true ec, Bool.false_or]
        | false =>
          rw [List.any_cons, List.filter_cons_of_pos (by simp), List.any_cons, ← ihl]
          show ((flagP n (z, false)).any openK || _) = _
          rw [open_free ec]
    exact key (withB x) fun c hc => by
      have hk : c.1 ∈ kids x := by
        rw [← withB_kids h]
        exact List.mem_map.mpr ⟨c, hc, rfl⟩
      exact h.kids.1 c.1 hk
end
end K6

namespace K6
open PySem PySem.Spec PyProof.Rows L2 GR WX TX RZ
theorem flagP_stable {zs : List Str} : ∀ {m k : Nat} {x : PyData} {b : Bool}, Ex zs m x → m ≤ k → flagP k (x, b) = flagP m (x, b)
  | 0, _, _, _, h, _ => by cases h
  | m + 1, 0, _, _, _, hk => by omega
  | m + 1, k + 1, x, b, h, hk => by
    simp only [flagP]
    congr 1
    refine flatMap_congr fun c hc => ?_
    have : c.1 ∈ kids x := by
      rw [← withB_kids h]
      exact List.mem_map.mpr ⟨c, hc, rfl⟩
    exact flagP_stable (h.kids.1 c.1 this) (by omega : m ≤ k)
theorem all_perm {α : Type} {f : α → Bool} {a b : List α} (h : a.Perm b) : a.all f = b.all f := by
  rw [Bool.eq_iff_iff, List.all_eq_true, List.all_eq_true]
  exact ⟨fun g x hx => g x (h.mem_iff.mpr hx), fun g x hx => g x (h.mem_iff.mp hx)⟩
theorem lvls_flat (n : Nat) (x : PyData) : (lvls n [x]).Perm (flatP n x) := by
  have := lvls_perm n [x]
  rw [List.flatMap_cons, List.flatMap_nil, List.append_nil] at this
  exact this
theorem all_parts_eq {zs : List Str} {n : Nat} {x : PyData} (h : Ex zs n x) (f : PyData → Bool) : ((flagP n (x, false)).all fun t => f t.1) = (lvls n [x]).all f := by
  rw [all_perm (lvls_flat n x), ← flagP_parts (b := false) h, List.all_map]
  rfl
theorem vars_none {zs : List Str} : ∀ {l : List PyData} {n : Nat}, (∀ x, x ∈ l → Ex zs n x) → (vars l).isEmpty = l.all fun x => !decide (headW x = "var")
  | [], _, _ => rfl
  | x :: l, n, h => by
    have ih := vars_none fun y hy => h y (List.mem_cons_of_mem _ hy)
    have hx := h x List.mem_cons_self
    obtain ⟨wd, fs, rest, rfl, _, _⟩ := hx.form
    rw [List.all_cons, ← ih]
    have hh : headW (.tuple (.str wd :: rest)) = wd := rfl
    by_cases e : wd = "var"
    · subst e
      obtain ⟨z, _, rfl⟩ := hx.var
      have : vars (.tuple [.str "var", .str z] :: l) = z :: vars l := by
        unfold vars
        rw [List.filterMap_cons]
        simp [varName]
      rw [this, hh]
      simp
    · have : vars (.tuple (.str wd :: rest) :: l) = vars l := by
        unfold vars
        rw [List.filterMap_cons, varName_no e]
      rw [this, hh]
      simp [e]
theorem all_and {α : Type} {f g : α → Bool} : ∀ l : List α, (l.all fun x => f x && g x) = (l.all f && l.all g)
  | [] => rfl
  | x :: l => by
    rw [List.all_cons, List.all_cons, List.all_cons, all_and l]
    cases f x <;> cases g x <;> cases l.all f <;> cases l.all g <;> rfl
theorem all_not_any {α : Type} {f : α → Bool} : ∀ l : List α, (l.all fun x => !f x) = !l.any f
  | [] => rfl
  | x :: l => by
    rw [List.all_cons, List.any_cons, all_not_any l, Bool.not_or]
/-- what the law's look says in the end -/
theorem say_all {zs : List Str} {n : Nat} {x : PyData} (h : Ex zs n x) :
    ((flagP n (x, false)).all fun t => (say t).1) = plainE n x ∧ ((flagP n (x, false)).all fun t => (say t).2.1) = closedE n x ∧ ((flagP n (x, false)).all fun t => (say t).2.2) = simpleE n x := by
  refine ⟨all_parts_eq h plainP, ?_, all_parts_eq h simpleP⟩
  have hE : ∀ y, y ∈ lvls n [x] → Ex zs n y := lvls_ex fun y hy => by
    rw [List.mem_singleton.mp hy]
    exact h
  have e : (fun t : Task => (say t).2.1) = fun t => !decide (headW t.1 = "var") && !openK t := by
    funext t
    show (!(decide (headW t.1 = "var") || (decide (headW t.1 = "key") && !t.2))) = _
    rw [Bool.not_or]
    rfl
  have e2 : ((flagP n (x, false)).all fun t => !openK t) = !freeKey n x := by
    rw [all_not_any, open_free h]
  rw [e, all_and, e2]
  unfold closedE
  rw [vars_none hE]
  congr 1
  exact all_parts_eq h fun y => !decide (headW y = "var")
end K6

namespace K6
open PySem PySem.Spec PyProof.Rows L2 GR WX TX RZ
section
variable {P : Program} {w : World} {K : PySem.W.Frag} {mg : Str → Option Value} {base : Heap}
abbrev s_law_look : Stmt := topS 29
abbrev N_look : List Str := ["_law_thing", "_law_left", "_law_plain", "_law_closed_here", "_law_simple", "_law_here", "_law_bound", "_law_word", "_law_one", "_law_binds"]
theorem sc_law_look : FnScope N_look ["_law_thing"] (defScope s_law_look) := ⟨rfl, rfl, rfl, by decide +kernel, rfl, by decide +kernel, by decide +kernel⟩
def lookD (n : Nat) (x : PyData) : PyData := .tuple [.bool (plainE n x), .bool (closedE n x), .bool (simpleE n x)]
def sp_look (K : PySem.W.Frag) : Sp := fun vs H Q _ => ∃ (v : V) (x : PyData) (zs : List Str) (n : Nat), vs = [v] ∧ Dp K H v x ∧ Ex zs n x ∧ (flatP n x).length ≤ 2100000 ∧ n ≤ 30 ∧ (∀ z, z ∈ zs → PyData.strOk z = true) ∧ ∀ H' p, Same H H' → H' p = some (.tup [.bl (plainE n x), .bl (closedE n x), .bl (simpleE n x)]) → H p = none → Q (.ref p) H'
/-- all that the tasks left will say -/
def allF (n : Nat) (ts : List Task) : List Task := ts.flatMap (flagP n)
/-- before each turn: the list at lf, what was said so far -/
def LInv (K : PySem.W.Frag) (zs : List Str) (n : Nat) (x : PyData) (v : V) (H0 : Hp) (m : Nat) (σ : L2.St) (H : Hp) : Prop :=
  ∃ (lf : Addr) (p c s : Bool) (z5 z6 z7 z8 z9 : Option V) (us : List V) (ts : List Task), σ = [some v, some (.ref lf), some (.bl p), some (.bl c), some (.bl s), z5, z6, z7, z8, z9] ∧ H lf = some (.lst us) ∧ H0 lf = none ∧ DpAll K H us (ts.map taskD) ∧ (∀ t, t ∈ ts → Ex zs n t.1) ∧ m = szL n (ts.map (·.1)) ∧ m ≤ 2100000 ∧
    (p && (allF n ts).all fun t => (say t).1) = plainE n x ∧ (c && (allF n ts).all fun t => (say t).2.1) = closedE n x ∧ (s && (allF n ts).all fun t => (say t).2.2) = simpleE n x ∧ (∀ b ob, b ≠ lf → H0 b = some ob → H b = some ob)
theorem ok_look {f fw : Addr} {fd fdw : FuncData} {k : Nat} (F : Fun K "_law_look" "_law_look" s_law_look f fd) (Gw : FnOk P w K mg base CX0 k fw fdw ["_law_thing"] (sp_within K)) (gw : mg "_law_within" = some (.ref fw)) (Kw : PySem.W.keepIn K (.ref fw) = true) (bw : Binds K fdw ["_law_thing"] []) (mlen : mg "len" = none) :
    FnOk P w K mg base CX0 (k + 1) f fd ["_law_thing"] (sp_look K) := by
  have nd := sc_law_look.nd
  refine F.ok sc_law_look (fun vs H Q E h => ?_) (fun cdv A outer s H vs Q E hr h => ?_)
  · obtain ⟨v, x, zs, n, rfl, _⟩ := h
    rfl
  obtain ⟨v, x, zs, n, rfl, hd, he, hb, hn, hz, q⟩ := h
  refine ⟨_, (pss_cons (ps_asg (pe_tup (pa_cons (pe_lst (pa_cons (pe_tup (pa_cons (pv 0) (pa_cons pe_bl pa_nil))) pa_nil)) (pa_cons pe_bl (pa_cons pe_bl (pa_cons pe_bl pa_nil))))) (pg_tup rfl (pgs_cons (pg_name (i := 1) nd rfl (Or.inl rfl)) (pgs_cons (pg_name (i := 2) nd rfl (Or.inl rfl)) (pgs_cons (pg_name (i := 3) nd rfl (Or.inl rfl)) (pgs_cons (pg_name (i := 4) nd rfl (Or.inl rfl)) pgs_nil))))))
      (pss_cons (ps_while PassesOwn.never (pt_cmpR (op_neD hr.units) (pv 1) (pe_lst pa_nil) (nomark _))
      (pss_cons (ps_asg (pe_bm0 PySem.F.plainAttrs_list PySem.F.slot_list_pop PySem.F.type_list_pop mt_pop (pv 1)) (pg_tup rfl (pgs_cons (pg_name (i := 5) nd rfl (Or.inl rfl)) (pgs_cons (pg_name (i := 6) nd rfl (Or.inr rfl)) pgs_nil))))
        (pss_cons (ps_set (i := 7) nd rfl (.inl rfl) (pe_ix ix_tup (pv 5) pe_int (fun _ _ => rfl)))
        (Evl.pss_cut (ps_if (PW.pt (pw_or (pt_cmpR op_eq (pv 7) pe_str (nomark _)) (pw_or1 (PW.pt (pw_and (pt_cmpR op_eq (pv 7) pe_str (nomark _)) (pw_and1 (pt_not (pt_val (pv 6)))))))))
        (pss_one (ps_set (i := 3) nd rfl (.inl rfl) pe_bl))
        pss_nil)
        (Evl.pss_cut (ps_if (pt_cmpR op_eq (pv 7) pe_str (nomark _))
        (pss_one (ps_set (i := 2) nd rfl (.inl rfl) pe_bl))
        pss_nil)
        (Evl.pss_cut (ps_if (pt_cmpR op_in_seq (pv 7) (pe_tup (pa_cons pe_str (pa_cons pe_str (pa_cons pe_str (pa_cons pe_str pa_nil))))) (by rfl))
        (pss_cons (ps_set (i := 4) nd rfl (.inl rfl) pe_bl)
          (pss_one (ps_if (PW.pt (pw_or (pt_cmpR op_gt (pe_callB call_len_seq (by rfl) mlen PySem.boot_len (pa_cons (pe_ix ix_tup (pv 5) pe_int (fun _ _ => rfl)) pa_nil)) pe_int (nomark _)) (pw_or1 (pt_cmpR (op_neD hr.units) (pe_ix ix_tup (pv 5) pe_int (fun _ _ => rfl)) (pe_tup (pa_cons pe_str (pa_cons (pe_ix ix_tup (pv 5) pe_int (fun _ _ => rfl)) (pa_cons (pe_tup (pa_cons pe_str pa_nil)) (pa_cons pe_str pa_nil))))) (nomark _)))))
          (pss_one (ps_set (i := 2) nd rfl (.inl rfl) pe_bl))
          pss_nil)))
        pss_nil)
        (pss_one (ps_expr (pe_bm PySem.F.plainAttrs_list PySem.F.slot_list_extend PySem.F.type_list_extend mt_extend (pv 1) (pa_cons (pe_lc (own := [("_law_one", 8), ("_law_binds", 9)]) (g := gTup K 2 (gCons (gName 8) (gCons (gName 9) gNil))) rfl nd (pi_list (pe_call Gw hr (by rfl) gw Kw bw .nil pass0 (pa_cons (pv 5) pa_nil))) (blkOk_by (N := N_look) (sc := defScope s_law_look) (by decide +kernel)) (fun _ _ _ _ _ => (pg_tup rfl (pgs_cons (pg_name (i := 8) (x := "_law_one") nd rfl (Or.inl rfl)) (pgs_cons (pg_name (i := 9) (x := "_law_binds") nd rfl (Or.inl rfl)) pgs_nil)))) (fun _ _ _ _ _ => pts_nil) (fun _ _ _ _ _ => (pe_tup (pa_cons (pv 8) (pa_cons (pe_or (pv 6) (pe_one (pv 9))) pa_nil))))) pa_nil))))))))))
      (pss_one (ps_ret (pe_tup (pa_cons (pv 2) (pa_cons (pv 3) (pa_cons (pv 4) pa_nil)))))))), ?_⟩
  refine ⟨v, rfl, le2, fun tt ntt => ⟨small_le (show 1 ≤ 1000 by decide), fun lf nlf => ⟨small_le (show 4 ≤ 1000 by decide), fun tp ntp => ?_⟩⟩⟩
  have st := same_upd (o := .tup [v, .bl false]) ntt
  have sl := same_upd (o := .lst [.ref tt]) nlf
  have sp := same_upd (o := .tup [.ref lf, .bl true, .bl true, .bl true]) ntp
  have hlf := sp _ _ (show upd (upd H tt (.tup [v, .bl false])) lf (.lst [.ref tt]) lf = _ from upd_same)
  have htt := sp _ _ (sl _ _ (show upd H tt (.tup [v, .bl false]) tt = _ from upd_same))
  have s3 := (st.trans sl).trans sp
  have nH := st.free nlf
  have say0 := say_all he
  have hlenx := flatP_len he
  have hF1 : allF n [(x, false)] = flagP n (x, false) := by
    unfold allF
    rw [List.flatMap_cons, List.flatMap_nil, List.append_nil]
  refine ⟨tp, [.ref lf, .bl true, .bl true, .bl true], rfl, .inl (.inl upd_same), rfl, _, _, rfl, _, _, rfl, _, _, rfl, _, _, rfl, rfl, ?_⟩
  refine ⟨LInv K zs n x v H, ⟨szL n [x], lf, true, true, true, none, none, none, none, none, [.ref tt], [(x, false)], rfl, hlf, nH, .cons (.tup (.inl (.inl htt)) (.cons (he.kept (KeepT.of s3) hd) (.cons (.bl false) .nil))) .nil, ?_, rfl, ?_, ?_, ?_, ?_, fun b ob _ e => s3 _ _ e⟩, ?_⟩
  · intro t ht
    rw [List.mem_singleton.mp ht]
    exact he
  · rw [szL_cons]
    show _ + 0 ≤ _
    omega
  · rw [hF1, Bool.true_and]
    exact say0.1
  · rw [hF1, Bool.true_and]
    exact say0.2.1
  · rw [hF1, Bool.true_and]
    exact say0.2.2
  · rintro m σ H' ⟨lf, p, c, s', z5, z6, z7, z8, z9, us, ts, rfl, hus, nlf0, hU, hE, rfl, hm, hp, hc, hs, kk⟩
    have lU := dpAll_len hU
    rw [List.length_map] at lU
    have sH : Same H H' := fun b ob e => kk b ob (ne_of_none e nlf0) e
    have hEx : ∀ y, y ∈ ts.map (·.1) → Ex zs n y := fun y hy => by
      obtain ⟨t, ht, rfl⟩ := List.mem_map.mp hy
      exact hE t ht
    have hlen := szL_len hEx
    rw [List.length_map] at hlen
    have fts : flatDs (ts.map taskD) = true := flatDs_of fun d hd => by
      obtain ⟨t, ht, rfl⟩ := List.mem_map.mp hd
      exact flat_task (hE t ht)
    refine ⟨.ref lf, rfl, Nat.zero_le _, fun em nem => ?_⟩
    have se := same_upd (o := .lst []) nem
    have hshape : SeqAt.shaped (.list (ts.map taskD)) = true := by
      have both : ∀ d, d ∈ ts.map taskD → d.canLay0 = true ∧ d.depth ≤ 2 * n + 1 := fun d hd => by
        obtain ⟨t, ht, rfl⟩ := List.mem_map.mp hd
        have h1 := lay_of hz (hE t ht)
        have h2 := depth_of (hE t ht)
        unfold taskD
        refine ⟨by simp only [PyData.canLay0, PyData.canLayAll0, h1, Bool.and_self], ?_⟩
        simp only [PyData.depth, PyData.depthAll]
        omega
      have d1 := depth_all fun d hd => (both d hd).2
      unfold SeqAt.shaped
      simp only [PyData.canLay0, PyData.depth, lay_all fun d hd => (both d hd).1, Bool.true_and]
      exact decide_eq_true (by omega)
    have hem : upd H' em (.lst []) em = some (.lst []) := upd_same
    have hus1 := se _ _ hus
    have hU1 := dp_keepAll (KeepT.of se) _ _ fts hU
    refine ⟨.list (ts.map taskD), .list [], .lst (.inl (.inl hus1)) hU1, .lst (.inl (.inl hem)) .nil, hshape, by decide +kernel, _, rfl, ?_⟩
    clear hem
    have keep1 : ∀ b ob, b ≠ lf → H b = some ob → upd H' em (.lst []) b = some ob := fun b ob h1 e => se _ _ (kk b ob h1 e)
    revert hus1 hU1 keep1
    generalize upd H' em (.lst []) = H1
    intro hus1 hU1 keep1
    have sH1 : Same H H1 := fun b ob e => keep1 b ob (ne_of_none e nlf0) e
    by_cases hts : ts = []
    · subst hts
      have e0 : (!PyData.eqv (.list (([] : List Task).map taskD)) (.list [])) = false := by
        simp only [List.map_nil, PyData.eqv, PyData.eqvAll, Bool.not_true]
      rw [e0]
      refine iteF ⟨_, rfl, _, rfl, _, rfl, small_le (show 3 ≤ 1000 by decide), fun r nr => ?_⟩
      have hp' : p = plainE n x := by rw [← hp]; exact (Bool.and_true _).symm
      have hc' : c = closedE n x := by rw [← hc]; exact (Bool.and_true _).symm
      have hs' : s' = simpleE n x := by rw [← hs]; exact (Bool.and_true _).symm
      rw [hp', hc', hs']
      exact q _ r (sH1.trans (same_upd nr)) upd_same (sH1.free nr)
    · have e1 : (!PyData.eqv (.list (ts.map taskD)) (.list [])) = true := by
        cases ts with
        | nil => exact absurd rfl hts
        | cons t ts => simp only [List.map_cons, PyData.eqv, PyData.eqvAll, Bool.not_false]
      rw [e1]
      refine iteT ⟨fun σ' H'' => ∃ m', m' < szL n (ts.map (·.1)) ∧ LInv K zs n x v H m' σ' H'', fun _ _ h => h, ?_⟩
      obtain ⟨ts', ⟨y, b⟩, rfl⟩ : ∃ ts' t, ts = ts' ++ [t] := ⟨ts.dropLast, ts.getLast hts, (List.dropLast_concat_getLast hts).symm⟩
      have hne' : us ≠ [] := by
        intro z
        rw [z, List.length_append] at lU
        cases lU
      obtain ⟨uy, d, xs', hsplit, huy, hU', hyd⟩ := dpAll_last hU1 hne'
      rw [List.map_append] at hsplit
      obtain ⟨h1, h2⟩ := List.append_inj' hsplit rfl
      have h2 : taskD (y, b) = d := (List.cons.inj h2).1
      subst h1
      subst h2
      have ey : Ex zs n y := hE (y, b) (List.mem_append_right _ (List.mem_singleton.mpr rfl))
      have hE' : ∀ t, t ∈ ts' → Ex zs n t.1 := fun t ht => hE t (List.mem_append_left _ ht)
      have fts' : flatDs (ts'.map taskD) = true := flatDs_of fun d hd => by
        obtain ⟨t, ht, rfl⟩ := List.mem_map.mp hd
        exact flat_task (hE' t ht)
      unfold taskD at hyd
      cases hyd with
      | tup hS hB =>
      cases hB with
      | cons hv1 hB =>
      cases hB with
      | cons hv2 hB =>
      cases hB
      cases hv2
      rename_i tt2 v1
      have k2 : KeepT H1 (upd H1 lf (.lst us.dropLast)) := KeepT.lst hus1
      have hus2 : upd H1 lf (.lst us.dropLast) lf = some (.lst us.dropLast) := upd_same
      refine ⟨.ref lf, rfl, .inl ⟨rfl, _, .inl (.inl hus1)⟩, lf, us, .ref tt2, rfl, rfl, hus1, huy, tt2, [v1, .bl b], rfl, k2.seqt hS, rfl, _, _, rfl, _, _, rfl, rfl, ?_⟩
      have keep2 : ∀ c ob, c ≠ lf → H c = some ob → upd H1 lf (.lst us.dropLast) c = some ob := fun c ob h1 e => by
        rw [upd_ne h1]
        exact keep1 c ob h1 e
      have hU2 := dp_keepAll k2 _ _ fts' hU'
      have hy2 := ey.kept k2 hv1
      revert hus2 keep2 hU2 hy2
      generalize upd H1 lf (.lst us.dropLast) = H2
      intro hus2 keep2 hU2 hy2
      obtain ⟨wd, fs, rest, hform, hft, hff⟩ := ey.form
      have hhead : headW y = wd := by
        rw [hform]
        rfl
      have hy3 := hy2
      rw [hform] at hy3
      cases hy3 with
      | tup hS2 hB2 =>
      cases hB2 with
      | @cons vw vs1 dw ds1 hw2 hB2 =>
      cases hw2
      rename_i a1
      refine ⟨.ref a1, rfl, a1, _, 0, .str wd, rfl, rfl, hS2, at0, ?_⟩
      -- closed
      refine ⟨fun σ' H'' => σ' = [some v, some (.ref lf), some (.bl p), some (.bl (c && (say (y, b)).2.1)), some (.bl s'), some (.ref a1), some (.bl b), some (.str wd), z8, z9] ∧ H2 = H'', ?_, ?_⟩
      · have hsay : (say (y, b)).2.1 = !(decide (wd = "var") || (decide (wd = "key") && !b)) := by
          unfold say
          rw [hhead]
        rw [hsay]
        refine ⟨.str wd, rfl, rfl, _, rfl, ite2 (fun e2 => iteT ⟨?_, rfl⟩) (fun e2 => ⟨.str wd, rfl, rfl, _, rfl, ite2 (fun e3 => ⟨.bl b, rfl, b, rfl, ?_⟩) (fun e3 => iteF ⟨?_, rfl⟩)⟩)⟩
        · have e2 : wd = "var" := by simpa using e2
          rw [decide_eq_true e2, Bool.true_or, Bool.not_true, Bool.and_false]
          rfl
        · have e2 : wd ≠ "var" := fun z => e2 (by simpa using z)
          have e3 : wd = "key" := by simpa using e3
          rw [decide_eq_false e2, decide_eq_true e3]
          cases b with
          | true =>
            refine iteF ⟨?_, rfl⟩
            simp
          | false =>
            refine iteT ⟨?_, rfl⟩
            simp
        · have e2 : wd ≠ "var" := fun z => e2 (by simpa using z)
          have e3 : wd ≠ "key" := fun z => e3 (by simpa using z)
          rw [decide_eq_false e2, decide_eq_false e3]
          simp
      rintro σ' H'' ⟨rfl, rfl⟩
      -- let
      refine ⟨fun σ' H'' => σ' = [some v, some (.ref lf), some (.bl (p && decide (wd ≠ "let"))), some (.bl (c && (say (y, b)).2.1)), some (.bl s'), some (.ref a1), some (.bl b), some (.str wd), z8, z9] ∧ H2 = H'', ?_, ?_⟩
      · refine ⟨.str wd, rfl, rfl, _, rfl, ite2 (fun e2 => ⟨?_, rfl⟩) (fun e2 => ⟨?_, rfl⟩)⟩
        · have e2 : wd = "let" := by simpa using e2
          rw [decide_eq_false (fun h => h e2), Bool.and_false]
          rfl
        · have e2 : wd ≠ "let" := fun z => e2 (by simpa using z)
          rw [decide_eq_true e2, Bool.and_true]
      rintro σ' H'' ⟨rfl, rfl⟩
      -- simple, plain
      refine ⟨fun σ' H'' => σ' = [some v, some (.ref lf), some (.bl (p && plainP y)), some (.bl (c && (say (y, b)).2.1)), some (.bl (s' && simpleP y)), some (.ref a1), some (.bl b), some (.str wd), z8, z9] ∧ Same H2 H'', ?_, ?_⟩
      · refine ⟨.str wd, rfl, small_le (show 4 ≤ 1000 by decide), fun p2 np2 => ?_⟩
        have s3' := same_upd (o := .tup [.str "count", .str "sum", .str "most", .str "first"]) np2
        have hp3 : SqT K (upd H2 p2 (.tup [.str "count", .str "sum", .str "most", .str "first"])) p2 (aggW.map V.str) := .inl (.inl upd_same)
        refine ⟨p2, aggW.map V.str, rfl, .inr hp3, rfl, flat_strs aggW, _, rfl, ?_⟩
        clear hp3
        revert s3'
        generalize upd H2 p2 (.tup [.str "count", .str "sum", .str "most", .str "first"]) = H3
        intro s3'
        rw [wanted_in]
        have hS3 := (KeepT.of s3').seqt hS2
        have hsim : simpleP y = decide (wd ∉ aggW) := by
          unfold simpleP
          rw [hhead]
        refine ite2 (fun e3 => ?_) (fun e3 => ?_)
        · have e3 : wd ∈ aggW := by simpa using e3
          have hlet : wd ≠ "let" := fun z => absurd (z ▸ e3) (by decide)
          have ey' := ey
          rw [hform] at ey'
          obtain ⟨m, t, xs, y3, ys, hn', hrest, ht, ho, hx2, hxs, hy3', hys⟩ := ey'.agg_of e3
          subst hrest
          have hpl : plainP y = (PyData.eqv (.tuple xs) (.tuple []) && PyData.eqv y3 (rowsD t)) := by
            rw [hform]
            exact plain_agg e3
          have hsf : simpleP y = false := by
            rw [hsim]
            simp [e3]
          cases hB2 with
          | @cons u1 us1 _ _ g1 hB2 =>
          cases g1
          cases hB2 with
          | @cons u2 us2 _ _ g2 hB2 =>
          cases hB2 with
          | @cons u3 us3 _ _ g3 hB2 =>
          cases g2 with
          | @tup xa uxs _ hxa hxA =>
          have lxs := dpAll_len hxA
          refine ⟨.ref a1, rfl, a1, _, 2, .ref xa, rfl, rfl, hS3, at2, xa, uxs, rfl, .inr ((KeepT.of s3').seqt hxa), _, _, rfl, rfl, _, rfl, ite2 (fun e4 => iteT ?_) (fun e4 => ?_)⟩
          · have e4 : 0 < uxs.length := by
              have := of_decide_eq_true e4
              omega
            have hx : PyData.eqv (.tuple xs) (.tuple []) = false := by
              cases xs with
              | nil =>
                rw [lxs] at e4
                cases e4
              | cons z zs => simp only [PyData.eqv, PyData.eqvAll]
            refine ⟨?_, s3'⟩
            rw [hpl, hx, hsf, Bool.false_and, Bool.and_false, Bool.and_false]
            rfl
          · have e4 : uxs.length = 0 := by
              have : ¬ ((uxs.length : Int) > 0) := fun z => e4 (decide_eq_true z)
              omega
            have hx : PyData.eqv (.tuple xs) (.tuple []) = true := by
              have : xs = [] := List.eq_nil_of_length_eq_zero (lxs.symm.trans e4)
              rw [this]
              simp only [PyData.eqv, PyData.eqvAll]
            refine ⟨.ref a1, rfl, a1, _, 3, u3, rfl, rfl, hS3, at3, .ref a1, rfl, a1, _, 1, .str t, rfl, rfl, hS3, at1, small_le (show 1 ≤ 1000 by decide), fun p5 np5 => ⟨small_le (show 4 ≤ 1000 by decide), fun p6 np6 => ?_⟩⟩
            have s5 := same_upd (o := .tup [.str "key"]) np5
            have s6 := same_upd (o := .tup [.str "cell", .str t, .ref p5, .str "in"]) np6
            refine ⟨y3, rowsD t, dp_keep (KeepT.of (s3'.trans (s5.trans s6))) _ _ hy3'.flat g3, .tup (.inl (.inl upd_same)) (.cons (.str _) (.cons (.str t) (.cons (.tup (.inl (.inl (s6 _ _ upd_same))) (.cons (.str _) .nil)) (.cons (.str _) .nil)))), shaped_of hz (by omega) hy3', shaped_rows (hz t ht), _, rfl, ite2 (fun e5 => ?_) (fun e5 => ?_)⟩
            · have e5 : PyData.eqv y3 (rowsD t) = false := by simpa using e5
              refine ⟨?_, s3'.trans (s5.trans s6)⟩
              rw [hpl, hx, e5, hsf, Bool.true_and, Bool.and_false, Bool.and_false]
              rfl
            · have e5 : PyData.eqv y3 (rowsD t) = true := by simpa using e5
              refine ⟨?_, s3'.trans (s5.trans s6)⟩
              rw [hpl, hx, e5, hsf, Bool.true_and, Bool.and_true, Bool.and_false, decide_eq_true hlet, Bool.and_true]
              rfl
        · have e3 : wd ∉ aggW := fun z => e3 (by simpa using z)
          have hpl : plainP y = decide (wd ≠ "let") := by
            rw [hform]
            exact plain_no e3
          refine ⟨?_, s3'⟩
          rw [hpl, hsim, decide_eq_true e3, Bool.and_true]
      rintro σ' H3 ⟨rfl, s23⟩
      have hus3 := s23 _ _ hus2
      have hy4 := ey.kept (KeepT.of s23) hy2
      have hy4' := hy4
      refine ⟨.ref lf, rfl, .inl ⟨rfl, _, .inl (.inl hus3)⟩, .ref a1, rfl, .ref a1, y, zs, n, rfl, hy4, ey, fun H4 r us4 s4 nr hr4 hu4 => ⟨r, rfl, ⟨us4, .inl (.inl hr4)⟩, fun D nD => ?_⟩⟩
      have s24 := s23.trans s4
      have hus4 := s4 _ _ hus3
      have hDl : lf ≠ D := ne_of_none hus4 nD
      have lu4 := dpAll_len hu4
      rw [List.length_map] at lu4
      have lw6 : (withB y).length = (kids y).length := by rw [← withB_kids ey, List.length_map]
      have hk6 : (kids y).length ≤ 6 := by
        cases n with
        | zero => cases ey
        | succ n => exact ey.kids.2
      have ftw : ∀ (t : Task), t ∈ withB y → ∀ b', flatD (taskD (t.1, b')) = true := fun t ht b' => by
        have : t.1 ∈ kids y := by
          rw [← withB_kids ey]
          exact List.mem_map.mpr ⟨t, ht, rfl⟩
        cases n with
        | zero => cases ey
        | succ n => exact flat_task (t := (t.1, b')) (ey.kids.1 t.1 this)
      refine walk_body (xs := us4) (fun i H' => ∃ acc, H' D = some (.lst acc) ∧ acc.length = i ∧ DpAll K H' acc (((withB y).take i).map fun t => taskD (t.1, b || t.2)) ∧ Same H4 H') ?_ ?_ ?_ ?_
      · refine ⟨[], upd_same, rfl, ?_, same_upd nD⟩
        rw [List.take_zero]
        exact .nil
      · rintro i H' _ ⟨acc, hD, hacc, hdp, k⟩
        exact .inl (.inl (k _ _ hr4))
      · rintro i u H' hui ⟨acc, hD, hacc, hdp, k⟩
        obtain ⟨d, hdi, hud⟩ := dpAll_at hu4 hui
        rw [List.getElem?_map] at hdi
        obtain ⟨⟨z, cf⟩, hti, rfl⟩ : ∃ t, (withB y)[i]? = some t ∧ d = taskD t := by
          cases e : (withB y)[i]? with
          | none =>
            rw [e] at hdi
            cases hdi
          | some t =>
            rw [e] at hdi
            cases hdi
            exact ⟨t, rfl, rfl⟩
        have htm := List.mem_of_getElem? hti
        have hi : i < us4.length := (List.getElem?_eq_some_iff.mp hui).1
        have hud2 := dp_keep (KeepT.of k) _ _ (ftw (z, cf) htm cf) hud
        unfold taskD at hud2
        cases hud2 with
        | tup hS5 hB5 =>
        cases hB5 with
        | cons hv5 hB5 =>
        cases hB5 with
        | cons hv6 hB5 =>
        cases hB5
        cases hv6
        rename_i tt5 v5
        have fz : flatD z = true := by
          have := ftw (z, cf) htm cf
          unfold taskD at this
          simp only [flatD, flatDs, Bool.and_eq_true] at this
          exact this.1
        have put1 : ∀ pn, H' pn = none → ∃ acc', upd H' pn (.tup [v5, .bl (b || cf)]) D = some (.lst acc') ∧ acc'.length < sizeLine ∧ ∃ acc2, upd (upd H' pn (.tup [v5, .bl (b || cf)])) D (.lst (acc' ++ [.ref pn])) D = some (.lst acc2) ∧ acc2.length = i + 1 ∧
            DpAll K (upd (upd H' pn (.tup [v5, .bl (b || cf)])) D (.lst (acc' ++ [.ref pn]))) acc2 (((withB y).take (i + 1)).map fun t => taskD (t.1, b || t.2)) ∧ Same H4 (upd (upd H' pn (.tup [v5, .bl (b || cf)])) D (.lst (acc' ++ [.ref pn]))) := fun pn npn => by
          have s7 := same_upd (o := .tup [v5, .bl (b || cf)]) npn
          have hD7 := s7 _ _ hD
          have k7 : KeepT (upd H' pn (.tup [v5, .bl (b || cf)])) (upd (upd H' pn (.tup [v5, .bl (b || cf)])) D (.lst (acc ++ [.ref pn]))) := KeepT.lst hD7
          have fpre : flatDs (((withB y).take i).map fun t => taskD (t.1, b || t.2)) = true := flatDs_of fun d hd => by
            obtain ⟨t, ht, rfl⟩ := List.mem_map.mp hd
            exact ftw t (List.mem_of_mem_take ht) _
          refine ⟨acc, hD7, small1000 (by omega), acc ++ [.ref pn], upd_same, by rw [List.length_append, hacc]; rfl, ?_, fun c ob e => ?_⟩
          · rw [take_snoc hti, List.map_append]
            refine dpAll_append (dp_keepAll ((KeepT.of s7).trans k7) _ _ fpre hdp) (.cons ?_ .nil)
            exact dp_keep k7 _ _ (ftw (z, cf) htm (b || cf)) (.tup (.inl (.inl upd_same)) (.cons (dp_keep (KeepT.of s7) _ _ fz hv5) (.cons (.bl _) .nil)))
          · rw [upd_ne (ne_of_none e nD)]
            exact s7 _ _ (k _ _ e)
        refine ⟨tt5, [v5, .bl cf], rfl, hS5, rfl, _, _, rfl, _, _, rfl, rfl, rfl, yes_then ⟨v5, rfl, .bl b, rfl, b, rfl, ?_⟩⟩
        cases b with
        | true => exact iteT ⟨le2, fun pn npn => put1 pn npn⟩
        | false => exact iteF ⟨.bl cf, rfl, le2, fun pn npn => put1 pn npn⟩
      · rintro H5 ⟨acc, hD, hacc, hdp, s5⟩
        rw [lu4, List.take_length] at hdp
        have hus5 := s5 _ _ hus4
        have k6 : KeepT H5 (upd H5 lf (.lst (us.dropLast ++ acc))) := KeepT.lst hus5
        have s25 := s24.trans s5
        have k26 := (KeepT.of s25).trans k6
        have lud : us.dropLast.length ≤ us.length := by
          rw [List.length_dropLast]
          omega
        have hszk : szL n (kids y) + 1 = (flatP n y).length := szL_kids ey
        have hmap : (ts' ++ (withB y).map fun t => ((t.1, b || t.2) : Task)).map (·.1) = ts'.map (·.1) ++ kids y := by
          rw [List.map_append, List.map_map, ← withB_kids ey]
          rfl
        have hold : szL n ((ts' ++ [(y, b)]).map (·.1)) = szL n (ts'.map (·.1)) + (flatP n y).length := by
          rw [List.map_append, szL_append]
          show _ + szL n [y] = _
          rw [szL_cons]
          rfl
        have hnew : szL n ((ts' ++ (withB y).map fun t => ((t.1, b || t.2) : Task)).map (·.1)) = szL n (ts'.map (·.1)) + szL n (kids y) := by
          rw [hmap, szL_append]
        have hsplitF : allF n (ts' ++ [(y, b)]) = allF n ts' ++ (y, b) :: allF n ((withB y).map fun t => ((t.1, b || t.2) : Task)) := by
          unfold allF
          rw [List.flatMap_append, List.flatMap_cons, List.flatMap_nil, List.append_nil, List.flatMap_map]
          congr 1
          cases n with
          | zero => cases ey
          | succ n' =>
            rw [flagP]
            congr 1
            refine flatMap_congr fun t ht => ?_
            have : t.1 ∈ kids y := by
              rw [← withB_kids ey]
              exact List.mem_map.mpr ⟨t, ht, rfl⟩
            exact (flagP_stable (ey.kids.1 t.1 this) (Nat.le_succ n')).symm
        have hnewF : allF n (ts' ++ (withB y).map fun t => ((t.1, b || t.2) : Task)) = allF n ts' ++ allF n ((withB y).map fun t => ((t.1, b || t.2) : Task)) := by
          unfold allF
          rw [List.flatMap_append]
        have move : ∀ (f : Task → Bool) (r e : Bool), (r && (allF n (ts' ++ [(y, b)])).all f) = e → ((r && f (y, b)) && (allF n (ts' ++ (withB y).map fun t => ((t.1, b || t.2) : Task))).all f) = e := fun f r e h => by
          rw [hsplitF, List.all_append, List.all_cons] at h
          rw [hnewF, List.all_append, ← h]
          cases r <;> cases f (y, b) <;> simp
        refine ⟨lf, D, us.dropLast, acc, rfl, rfl, hus5, hD, ?_, szL n ((ts' ++ (withB y).map fun t => ((t.1, b || t.2) : Task)).map (·.1)), by omega, lf, p && plainP y, c && (say (y, b)).2.1, s' && simpleP y, _, _, _, _, _, us.dropLast ++ acc, ts' ++ (withB y).map fun t => ((t.1, b || t.2) : Task), rfl, upd_same, nlf0, ?_, ?_, rfl, by omega, move (fun t => (say t).1) p _ hp, move (fun t => (say t).2.1) c _ hc, move (fun t => (say t).2.2) s' _ hs, fun q ob h1 e => ?_⟩
        · rw [hacc, sizeLine_eq]
          omega
        · rw [List.map_append, List.map_map]
          refine dpAll_append (dp_keepAll k26 _ _ fts' hU2) (dp_keepAll k6 _ _ ?_ hdp)
          exact flatDs_of fun d hd => by
            obtain ⟨t, ht, rfl⟩ := List.mem_map.mp hd
            exact ftw t ht _
        · intro t ht
          rcases List.mem_append.mp ht with ht | ht
          · exact hE' t ht
          · obtain ⟨t0, ht0, rfl⟩ := List.mem_map.mp ht
            have : t0.1 ∈ kids y := by
              rw [← withB_kids ey]
              exact List.mem_map.mpr ⟨t0, ht0, rfl⟩
            cases n with
            | zero => cases ey
            | succ n => exact (ey.kids.1 t0.1 this).mono (Nat.le_succ n)
        · rw [upd_ne h1]
          exact s25 _ _ (keep2 _ _ h1 e)
end
end K6

namespace K6
open PySem PySem.Spec PyProof.Rows L2 GR WX TX RZ
theorem kd_put {o : PyData} {n : Nat} {x : PyData} : kd o n x = putS o n (x, false) := by
  unfold putS
  simp
/-- an expression with another one in place of its free keys is one -/
theorem kd_ex {zs : List Str} {o : PyData} {m : Nat} (hm : Ex zs m o) : ∀ {n : Nat} {x : PyData}, Ex zs n x → Ex zs (n + m) (kd o n x) := by
  intro n x h
  induction h with
  | leaf n x h =>
    by_cases hk : headW x = "key"
    · rw [kd, if_pos hk]
      exact hm.mono (by omega)
    · rw [kd_put, put_leaf h hk]
      exact (Ex.leaf n x h).mono (by omega)
  | cell n t v x h1 h2 h3 ih =>
    rw [kd_put, put_cell (zs := zs), ← kd_put, show n + 1 + m = (n + m) + 1 by omega]
    exact .cell (n + m) t v _ h1 h2 ih
  | op n w x y h1 h2 h3 ih1 ih2 =>
    rw [show n + 1 + m = (n + m) + 1 by omega]
    by_cases e : w = "at"
    · subst e
      rw [kd_put, put_at, ← kd_put]
      exact .op (n + m) "at" _ _ h1 ih1 (h3.mono (by omega))
    · rw [kd_put, put_op h1 e, ← kd_put, ← kd_put]
      exact .op (n + m) w _ _ h1 ih1 ih2
  | iff n x y z h1 h2 h3 ih1 ih2 ih3 =>
    rw [kd_put, put_if, ← kd_put, ← kd_put, ← kd_put, show n + 1 + m = (n + m) + 1 by omega]
    exact .iff (n + m) _ _ _ ih1 ih2 ih3
  | agg n w t xs ys h1 h2 h3 h4 h5 ih1 ih2 =>
    rw [kd_put, put_agg (zs := zs) h1, show n + 1 + m = (n + m) + 1 by omega]
    refine .agg (n + m) w t _ _ ?_ h2 (by rw [List.length_map]; exact h3) ?_ ?_
    · rw [List.length_append, List.length_take, List.length_map, List.length_drop, show min (ys.length - freeN w) ys.length + (ys.length - (ys.length - freeN w)) = ys.length by omega]
      exact h1
    · intro z hz
      obtain ⟨z0, hz0, rfl⟩ := List.mem_map.mp hz
      rw [← kd_put]
      exact ih1 z0 hz0
    · intro z hz
      rcases List.mem_append.mp hz with hz | hz
      · exact (h5 z (List.mem_of_mem_take hz)).mono (by omega)
      · obtain ⟨z0, hz0, rfl⟩ := List.mem_map.mp hz
        rw [← kd_put]
        exact ih2 z0 (List.mem_of_mem_drop hz0)
/-- refilled with its own free kids it is itself -/
theorem refill_self : ∀ {fs : List Str} {ds : List PyData}, Fits fs ds → refill fs ds (pick W1 fs ds) = ds
  | _, _, .nil => rfl
  | f :: fs, d :: ds, .cons h t => by
    have ih := refill_self t
    by_cases h1 : f = "extra"
    · obtain ⟨xs, rfl⟩ := h h1
      subst h1
      rw [f_ex, ref_extra rfl, ih]
    · by_cases h2 : f = "free"
      · subst h2
        rw [f_free, ref_free, ih]
      · rw [f_no h1 (fun h => h2 (List.mem_singleton.mp h)), ref_no h1 h2, ih]
/-- without a free key nothing is put in -/
theorem kd_id {zs : List Str} {o : PyData} : ∀ {n : Nat} {x : PyData}, Ex zs n x → freeKey n x = false → kd o n x = x
  | 0, _, h, _ => by cases h
  | n + 1, x, h, hk => by
    simp only [freeKey, Bool.or_eq_false_iff, decide_eq_false_iff_not] at hk
    rw [kd, if_neg hk.1]
    split
    · rfl
    · have e : (kidsF x).map (kd o n) = kidsF x := by
        refine (List.map_congr_left fun y hy => ?_).trans (List.map_id _)
        refine kd_id (h.kidsF y hy) ?_
        have := List.any_eq_false.mp hk.2 y hy
        simpa using this
      rw [e]
      obtain ⟨wd, fs, rest, rfl, hft, hff⟩ := h.form
      rw [kidsF_of hft]
      show PyData.tuple (.str wd :: refill (fieldsOf wd) rest _) = _
      rw [show fieldsOf wd = fs from fieldsOf_table (wd, fs) hft, refill_self hff]
end K6

namespace K6
open PySem PySem.Spec PyProof.Rows L2 GR WX TX RZ
theorem kf_of {zs : List Str} {n : Nat} {x : PyData} (h : Ex zs n x) {l : List Task} (e : withB x = l) : kidsF x = (l.filter fun t => !t.2).map (·.1) := by
  rw [← withB_free h, e]
theorem free_step {n : Nat} {x : PyData} (hk : headW x ≠ "key") (h : ∀ y, y ∈ kidsF x → freeKey n y = false) : freeKey (n + 1) x = false := by
  rw [freeKey, decide_eq_false hk, Bool.false_or, List.any_eq_false]
  intro y hy
  rw [h y hy]
  exact Bool.false_ne_true
/-- no free key comes in -/
theorem kd_free {zs : List Str} {o : PyData} {m : Nat} (hm : Ex zs m o) (ho : freeKey m o = false) : ∀ {n : Nat} {x : PyData}, Ex zs n x → freeKey (n + m) (kd o n x) = false := by
  intro n x h
  have whole := kd_ex hm h
  induction h with
  | leaf n x h =>
    by_cases hk : headW x = "key"
    · rw [kd, if_pos hk, free_stable hm (by omega)]
      exact ho
    · rw [kd_put, put_leaf h hk, show n + 1 + m = (n + m) + 1 by omega]
      refine free_step hk fun y hy => ?_
      have := (kidsF_sub x).subset hy
      rw [kids_leaf h] at this
      cases this
  | cell n t v x h1 h2 h3 ih =>
    rw [kd_put, put_cell (zs := zs), ← kd_put] at whole ⊢
    rw [show n + 1 + m = (n + m) + 1 by omega]
    refine free_step (show ("cell" : Str) ≠ "key" by decide) fun y hy => ?_
    rw [kf_of whole wb_cell] at hy
    simp only [List.filter_cons, List.filter_nil, Bool.not_false, if_true, List.map_cons, List.map_nil, List.mem_singleton] at hy
    rw [hy]
    exact ih (kd_ex hm h3)
  | op n w x y h1 h2 h3 ih1 ih2 =>
    have hwk : w ≠ "key" := by
      simp only [opws, List.mem_cons, List.not_mem_nil, or_false] at h1
      rcases h1 with rfl | rfl | rfl | rfl | rfl | rfl <;> decide
    by_cases e : w = "at"
    · subst e
      rw [kd_put, put_at, ← kd_put] at whole ⊢
      rw [show n + 1 + m = (n + m) + 1 by omega]
      refine free_step hwk fun z hz => ?_
      rw [kf_of whole wb_at] at hz
      simp only [List.filter_cons, List.filter_nil, Bool.not_false, Bool.not_true, if_true, Bool.false_eq_true, if_false, List.map_cons, List.map_nil, List.mem_singleton] at hz
      rw [hz]
      exact ih1 (kd_ex hm h2)
    · rw [kd_put, put_op h1 e, ← kd_put, ← kd_put] at whole ⊢
      rw [show n + 1 + m = (n + m) + 1 by omega]
      refine free_step hwk fun z hz => ?_
      rw [kf_of whole (wb_op h1 e)] at hz
      simp only [List.filter_cons, List.filter_nil, Bool.not_false, if_true, List.map_cons, List.map_nil, List.mem_cons, List.not_mem_nil, or_false] at hz
      rcases hz with rfl | rfl
      · exact ih1 (kd_ex hm h2)
      · exact ih2 (kd_ex hm h3)
  | iff n x y z h1 h2 h3 ih1 ih2 ih3 =>
    rw [kd_put, put_if, ← kd_put, ← kd_put, ← kd_put] at whole ⊢
    rw [show n + 1 + m = (n + m) + 1 by omega]
    refine free_step (show ("if" : Str) ≠ "key" by decide) fun u hu => ?_
    rw [kf_of whole wb_if] at hu
    simp only [List.filter_cons, List.filter_nil, Bool.not_false, if_true, List.map_cons, List.map_nil, List.mem_cons, List.not_mem_nil, or_false] at hu
    rcases hu with rfl | rfl | rfl
    · exact ih1 (kd_ex hm h1)
    · exact ih2 (kd_ex hm h2)
    · exact ih3 (kd_ex hm h3)
  | agg n w t xs ys h1 h2 h3 h4 h5 ih1 ih2 =>
    have hwk : w ≠ "key" := fun z => absurd (z ▸ (aggs_w h1).1) (by decide)
    rw [kd_put, put_agg (zs := zs) h1] at whole ⊢
    rw [show n + 1 + m = (n + m) + 1 by omega]
    refine free_step hwk fun z hz => ?_
    have hl : (ys.take (ys.length - freeN w) ++ (ys.drop (ys.length - freeN w)).map fun z => putS o n (z, false)).length = ys.length := by
      rw [List.length_append, List.length_take, List.length_map, List.length_drop]
      omega
    have hw := wb_agg (t := t) (xs := xs.map fun z => putS o n (z, false)) (show (w, (ys.take (ys.length - freeN w) ++ (ys.drop (ys.length - freeN w)).map fun z => putS o n (z, false)).length) ∈ aggs by rw [hl]; exact h1)
    rw [hl] at hw
    have hlt : (ys.take (ys.length - freeN w)).length = ys.length - freeN w := by
      rw [List.length_take]
      omega
    rw [List.take_left' hlt, List.drop_left' hlt] at hw
    rw [kf_of whole hw, List.filter_append, List.filter_append, List.map_append, List.map_append] at hz
    have good : ∀ l : List PyData, (∀ y, y ∈ l → y ∈ xs ∨ y ∈ ys) → z ∈ (((l.map fun z => putS o n (z, false)).map fun z => ((z, false) : Task)).filter fun t => !t.2).map (·.1) → freeKey (n + m) z = false := fun l hl hz => by
      obtain ⟨tk, htk, rfl⟩ := List.mem_map.mp hz
      obtain ⟨u, hu, rfl⟩ := List.mem_map.mp (List.mem_filter.mp htk).1
      obtain ⟨z0, hz0, rfl⟩ := List.mem_map.mp hu
      show freeKey (n + m) (putS o n (z0, false)) = false
      rw [← kd_put]
      rcases hl z0 hz0 with g | g
      · exact ih1 z0 g (kd_ex hm (h4 z0 g))
      · exact ih2 z0 g (kd_ex hm (h5 z0 g))
    rcases List.mem_append.mp hz with hz | hz
    · rcases List.mem_append.mp hz with hz | hz
      · exact good xs (fun y hy => .inl hy) hz
      · obtain ⟨tk, htk, rfl⟩ := List.mem_map.mp hz
        obtain ⟨htk, hb⟩ := List.mem_filter.mp htk
        obtain ⟨u, hu, rfl⟩ := List.mem_map.mp htk
        cases hb
    · exact good (ys.drop (ys.length - freeN w)) (fun y hy => .inr (List.mem_of_mem_drop hy)) hz
end K6

namespace K6
open PySem PySem.Spec PyProof.Rows L2 GR WX TX RZ
theorem kids_kd {zs : List Str} {o : PyData} {n : Nat} {x : PyData} (h : Ex zs (n + 1) x) (hk : headW x ≠ "key") : kids (kd o (n + 1) x) = inner o n false x := by
  unfold inner
  cases h with
  | leaf n x h => rw [kd_put, put_leaf h hk, kids_leaf h, wb_leaf h, List.map_nil]
  | cell n t v x h1 h2 h3 =>
    rw [kd_put, put_cell (zs := zs), kids_cell, wb_cell]
    rfl
  | op n w x y h1 h2 h3 =>
    by_cases e : w = "at"
    · subst e
      rw [kd_put, put_at, kids_op h1, wb_at]
      rfl
    · rw [kd_put, put_op h1 e, kids_op h1, wb_op h1 e]
      rfl
  | iff n x y z h1 h2 h3 =>
    rw [kd_put, put_if, kids_if, wb_if]
    rfl
  | agg n w t xs ys h1 h2 h3 h4 h5 =>
    have hl : (ys.take (ys.length - freeN w) ++ (ys.drop (ys.length - freeN w)).map fun z => putS o n (z, false)).length = ys.length := by
      rw [List.length_append, List.length_take, List.length_map, List.length_drop]
      omega
    rw [kd_put, put_agg (zs := zs) h1, kids_agg (by rw [hl]; exact h1), wb_agg h1, List.map_append, List.map_append, List.map_map, List.map_map, List.map_map, List.append_assoc]
    congr 1
    congr 1
    exact ((List.map_congr_left fun z _ => rfl).trans (List.map_id _)).symm
/-- how many parts there are then -/
theorem kd_size {zs : List Str} {o : PyData} {m : Nat} (hm : Ex zs m o) : ∀ {n : Nat} {x : PyData}, Ex zs n x → (flatP (n + m) (kd o n x)).length ≤ (flatP n x).length * (flatP m o).length
  | 0, _, h => by cases h
  | n + 1, x, h => by
    have hS := szL_kids hm
    have hx := szL_kids h
    have whole := kd_ex hm h
    have hw := szL_kids whole
    by_cases hk : headW x = "key"
    · have e : kd o (n + 1) x = o := by rw [kd, if_pos hk]
      rw [e, flatP_stable hm (by omega : m ≤ n + 1 + m)]
      exact Nat.le_mul_of_pos_left _ (by omega)
    · rw [kids_kd h hk] at hw
      have key : ∀ l : List Task, (∀ t, t ∈ l → Ex zs n t.1) → szL (n + 1 + m) (l.map fun t => putS o n (t.1, false || t.2)) ≤ szL (n + 1) (l.map (·.1)) * (flatP m o).length := by
        intro l
        induction l with
        | nil => intro _; exact Nat.zero_le _
        | cons t l ih =>
          intro hl
          obtain ⟨z, b⟩ := t
          have ez := hl (z, b) List.mem_cons_self
          have ihl := ih fun u hu => hl u (List.mem_cons_of_mem _ hu)
          rw [List.map_cons, List.map_cons, szL_cons, szL_cons, Nat.add_mul]
          have one : (flatP (n + 1 + m) (putS o n (z, false || b))).length ≤ (flatP (n + 1) z).length * (flatP m o).length := by
            rw [flatP_stable ez (Nat.le_succ n)]
            cases b with
            | true =>
              show (flatP (n + 1 + m) z).length ≤ _
              rw [flatP_stable ez (by omega : n ≤ n + 1 + m)]
              exact Nat.le_mul_of_pos_right _ (by omega)
            | false =>
              show (flatP (n + 1 + m) (putS o n (z, false))).length ≤ _
              rw [← kd_put, flatP_stable (kd_ex hm ez) (by omega : n + m ≤ n + 1 + m)]
              exact kd_size hm ez
          exact Nat.add_le_add one ihl
      have hall : ∀ t, t ∈ withB x → Ex zs n t.1 := fun t ht => by
        have : t.1 ∈ kids x := by
          rw [← withB_kids h]
          exact List.mem_map.mpr ⟨t, ht, rfl⟩
        exact h.kids.1 t.1 this
      have hb := key (withB x) hall
      rw [withB_kids h] at hb
      unfold inner at hw
      rw [← hw, ← hx, Nat.add_mul, Nat.one_mul]
      omega
end K6

namespace K6
open PySem PySem.Spec PyProof.Rows L2 GR WX TX RZ
theorem Ex.names {zs ws : List Str} (s : ∀ z, z ∈ zs → z ∈ ws) : ∀ {n : Nat} {x : PyData}, Ex zs n x → Ex ws n x := by
  intro n x h
  induction h with
  | leaf n x h =>
    refine .leaf n x ?_
    cases h with
    | int i a b => exact .int i a b
    | let_ i a b => exact .let_ i a b
    | key => exact .key
    | var z hz => exact .var z (s z hz)
  | cell n t v x h1 h2 h3 ih => exact .cell n t v x (s t h1) (s v h2) ih
  | op n o x y h1 h2 h3 ih1 ih2 => exact .op n o x y h1 ih1 ih2
  | iff n x y z h1 h2 h3 ih1 ih2 ih3 => exact .iff n x y z ih1 ih2 ih3
  | agg n o t xs ys h1 h2 h3 h4 h5 ih1 ih2 => exact .agg n o t xs ys h1 (s t h2) h3 ih1 ih2
/-! ### how long a text is -/
def sl (d : PyData) : Nat := d.shown.length
def sls : List PyData → Nat
  | [] => 0
  | d :: ds => sl d + 2 + sls ds
theorem sls_eq : ∀ ds : List PyData, ((PyData.shownAll ds).map (·.length)).sum + 2 * ds.length = sls ds
  | [] => by simp only [PyData.shownAll, List.map_nil, List.sum_nil, List.length_nil, sls]
  | d :: ds => by
    have := sls_eq ds
    simp only [PyData.shownAll, List.map_cons, List.sum_cons, List.length_cons, sls, sl]
    omega
theorem sls_append : ∀ (xs ys : List PyData), sls (xs ++ ys) = sls xs + sls ys
  | [], ys => by simp only [List.nil_append, sls, Nat.zero_add]
  | x :: xs, ys => by
    have := sls_append xs ys
    simp only [List.cons_append, sls]
    omega
theorem sls_le {b : PyData → Nat} : ∀ {ds : List PyData}, (∀ d, d ∈ ds → sl d + 2 ≤ b d) → sls ds ≤ (ds.map b).sum
  | [], _ => Nat.le_refl _
  | d :: ds, h => by
    have h1 := h d List.mem_cons_self
    have h2 := sls_le fun x hx => h x (List.mem_cons_of_mem _ hx)
    simp only [sls, List.map_cons, List.sum_cons]
    omega
theorem sl_tup (ds : List PyData) : sl (.tuple ds) ≤ sls ds + 3 := by
  have h1 := tupleText_len_le (PyData.shownAll ds)
  have h2 := sls_eq ds
  rw [PyData.shownAll_length] at h1
  unfold sl
  simp only [PyData.shown]
  omega
theorem sl_lst (ds : List PyData) : sl (.list ds) ≤ sls ds + 3 := by
  have h1 := listText_len_le (PyData.shownAll ds)
  have h2 := sls_eq ds
  rw [PyData.shownAll_length] at h1
  unfold sl
  simp only [PyData.shown]
  omega
theorem sl_name {z : Str} (h : Nm z) : sl (.str z) ≤ 82 := by
  obtain ⟨_, h2, h3, _⟩ := h
  have e := StrLaws.reprText_len z fun c hc => Nat.lt_of_le_of_lt (h3 c hc).2 (by decide)
  have e2 : z.length = z.cps.toList.length := by
    rw [Array.length_toList]
    rfl
  unfold sl
  rw [PyData.shown_str]
  omega
theorem int_nat {n : Int} (h1 : -(10 ^ 18) ≤ n) (h2 : n ≤ 10 ^ 18) : n.natAbs ≤ 1000000000000000000 := by omega
theorem int_log {n : Int} (h1 : -(10 ^ 18) ≤ n) (h2 : n ≤ 10 ^ 18) : n.natAbs.log2 < 60 := by
  by_cases e : n.natAbs = 0
  · rw [e]; decide
  · exact (Nat.log2_lt e).mpr (Nat.lt_of_le_of_lt (int_nat h1 h2) (by decide))
theorem sl_int {n : Int} (h1 : -(10 ^ 18) ≤ n) (h2 : n ≤ 10 ^ 18) : sl (.int n) ≤ 20 := by
  have e := int_text_length_le10 (k := 19) (by decide) (Nat.lt_of_le_of_lt (int_nat h1 h2) (by decide : 1000000000000000000 < 10 ^ 19))
  unfold sl
  rw [PyData.shown_int, PySem.ofString_length]
  exact e
theorem sl_word : ∀ w, w ∈ (["int", "let", "key", "var", "cell", "if", "+", "-", "*", "<", "=", "at", "count", "sum", "most", "first", "in", "a"] : List Str) → sl (.str w) ≤ 7 := by
  have : ∀ w, w ∈ (["int", "let", "key", "var", "cell", "if", "+", "-", "*", "<", "=", "at", "count", "sum", "most", "first", "in", "a"] : List Str) → (reprText w).length ≤ 7 := by decide +kernel
  intro w hw
  unfold sl
  rw [PyData.shown_str]
  exact this w hw
theorem op_words {w : Str} (h : w ∈ opws) : w ∈ (["int", "let", "key", "var", "cell", "if", "+", "-", "*", "<", "=", "at", "count", "sum", "most", "first", "in", "a"] : List Str) := by
  simp only [opws, List.mem_cons, List.not_mem_nil, or_false] at h
  rcases h with rfl | rfl | rfl | rfl | rfl | rfl <;> decide
theorem agg_words {w : Str} {k : Nat} (h : (w, k) ∈ aggs) : w ∈ (["int", "let", "key", "var", "cell", "if", "+", "-", "*", "<", "=", "at", "count", "sum", "most", "first", "in", "a"] : List Str) := by
  simp only [aggs, List.mem_cons, List.not_mem_nil, or_false, Prod.mk.injEq] at h
  rcases h with ⟨rfl, _⟩ | ⟨rfl, _⟩ | ⟨rfl, _⟩ | ⟨rfl, _⟩ <;> decide
theorem sum_mul {α : Type} (c : Nat) (f : α → Nat) : ∀ l : List α, (l.map fun x => c * f x).sum = c * (l.map f).sum
  | [] => by simp
  | x :: l => by
    rw [List.map_cons, List.map_cons, List.sum_cons, List.sum_cons, sum_mul c f l, Nat.mul_add]
/-- what is put in is no longer than 182 signs a part -/
theorem len_put {zs : List Str} {o : PyData} (hz : ∀ z, z ∈ zs → Nm z) (ho : sl o + 2 ≤ 182) : ∀ {n : Nat} {x : PyData}, Ex zs n x → ∀ b : Bool, sl (putS o n (x, b)) + 2 ≤ 182 * (flatP n x).length := by
  intro n x h
  induction h with
  | leaf n x h =>
    intro b
    have e : (flatP (n + 1) x).length = 1 := by
      simp only [flatP, kids_leaf h, List.flatMap_nil, List.length_singleton]
    rw [e, Nat.mul_one]
    by_cases hk : headW x = "key"
    · unfold putS
      cases b with
      | true =>
        show sl x + 2 ≤ 182
        cases h with
        | int i h1 h2 => exact absurd hk (show ("int" : Str) ≠ "key" by decide)
        | let_ i h1 h2 => exact absurd hk (show ("let" : Str) ≠ "key" by decide)
        | var z h1 => exact absurd hk (show ("var" : Str) ≠ "key" by decide)
        | key =>
          have := sl_tup [.str "key"]
          have := sl_word "key" (by decide)
          simp only [sls] at *
          omega
      | false =>
        show sl (kd o (n + 1) x) + 2 ≤ 182
        rw [kd, if_pos hk]
        exact ho
    · rw [put_leaf h hk]
      cases h with
      | int i h1 h2 =>
        have := sl_tup [.str "int", .int i]
        have := sl_word "int" (by decide)
        have := sl_int h1 h2
        simp only [sls] at *
        omega
      | let_ i h1 h2 =>
        have := sl_tup [.str "let", .int i]
        have := sl_word "let" (by decide)
        have := sl_int (show -(10 ^ 18) ≤ i by omega) (show i ≤ 10 ^ 18 by omega)
        simp only [sls] at *
        omega
      | var z h1 =>
        have := sl_tup [.str "var", .str z]
        have := sl_word "var" (by decide)
        have := sl_name (hz z h1)
        simp only [sls] at *
        omega
      | key => exact absurd rfl hk
  | cell n t v x h1 h2 h3 ih =>
    intro b
    have i1 := ih b
    rw [put_cell (zs := zs)]
    have e : (flatP (n + 1) (.tuple [.str "cell", .str t, x, .str v])).length = 1 + (flatP n x).length := by
      simp only [flatP, kids_cell, List.flatMap_cons, List.flatMap_nil, List.append_nil, List.length_cons]
      omega
    have := sl_tup [.str "cell", .str t, putS o n (x, b), .str v]
    have := sl_word "cell" (by decide)
    have := sl_name (hz t h1)
    have := sl_name (hz v h2)
    rw [e, Nat.mul_add]
    simp only [sls] at *
    omega
  | op n w x y h1 h2 h3 ih1 ih2 =>
    intro b
    have i1 := ih1 b
    have i2 := ih2 b
    have i3 := ih2 true
    have e : (flatP (n + 1) (.tuple [.str w, x, y])).length = 1 + ((flatP n x).length + (flatP n y).length) := by
      simp only [flatP, kids_op h1, List.flatMap_cons, List.flatMap_nil, List.append_nil, List.length_cons, List.length_append]
      omega
    have hw := sl_word w (op_words h1)
    rw [e, Nat.mul_add, Nat.mul_add]
    by_cases hat : w = "at"
    · subst hat
      rw [put_at]
      have := sl_tup [.str "at", putS o n (x, b), y]
      have e3 : putS o n (y, true) = y := rfl
      rw [e3] at i3
      simp only [sls] at *
      omega
    · rw [put_op h1 hat]
      have := sl_tup [.str w, putS o n (x, b), putS o n (y, b)]
      simp only [sls] at *
      omega
  | iff n x y z h1 h2 h3 ih1 ih2 ih3 =>
    intro b
    have i1 := ih1 b
    have i2 := ih2 b
    have i3 := ih3 b
    have e : (flatP (n + 1) (.tuple [.str "if", x, y, z])).length = 1 + ((flatP n x).length + ((flatP n y).length + (flatP n z).length)) := by
      simp only [flatP, kids_if, List.flatMap_cons, List.flatMap_nil, List.append_nil, List.length_cons, List.length_append]
      omega
    have hw := sl_word "if" (by decide)
    rw [e, Nat.mul_add, Nat.mul_add, Nat.mul_add, put_if]
    have := sl_tup [.str "if", putS o n (x, b), putS o n (y, b), putS o n (z, b)]
    simp only [sls] at *
    omega
  | agg n w t xs ys h1 h2 h3 h4 h5 ih1 ih2 =>
    intro b
    have e : (flatP (n + 1) (.tuple (.str w :: .str t :: .tuple xs :: ys))).length = 1 + ((xs.map fun z => (flatP n z).length).sum + (ys.map fun z => (flatP n z).length).sum) := by
      simp only [flatP, kids_agg h1, List.length_cons, List.length_flatMap, List.map_append, List.sum_append]
      omega
    have hw := sl_word w (agg_words h1)
    have ht := sl_name (hz t h2)
    rw [e, Nat.mul_add, Nat.mul_add, put_agg (zs := zs) h1, ← sum_mul, ← sum_mul]
    have a1 : sls (xs.map fun z => putS o n (z, b)) ≤ (xs.map fun z => 182 * (flatP n z).length).sum := by
      clear e h3
      induction xs with
      | nil => exact Nat.le_refl _
      | cons x xs ih =>
        have := ih1 x List.mem_cons_self b
        have := ih (fun y hy => h4 y (List.mem_cons_of_mem _ hy)) fun y hy => ih1 y (List.mem_cons_of_mem _ hy)
        simp only [List.map_cons, sls, List.sum_cons]
        omega
    have a2 : ∀ l : List PyData, (∀ y, y ∈ l → y ∈ ys) → sls l ≤ (l.map fun z => 182 * (flatP n z).length).sum := by
      intro l
      induction l with
      | nil => intro _; exact Nat.le_refl _
      | cons x l ih =>
        intro hl
        have := ih2 x (hl x List.mem_cons_self) true
        have e3 : putS o n (x, true) = x := rfl
        rw [e3] at this
        have := ih fun y hy => hl y (List.mem_cons_of_mem _ hy)
        simp only [List.map_cons, sls, List.sum_cons]
        omega
    have a3 : ∀ l : List PyData, (∀ y, y ∈ l → y ∈ ys) → sls (l.map fun z => putS o n (z, b)) ≤ (l.map fun z => 182 * (flatP n z).length).sum := by
      intro l
      induction l with
      | nil => intro _; exact Nat.le_refl _
      | cons x l ih =>
        intro hl
        have := ih2 x (hl x List.mem_cons_self) b
        have := ih fun y hy => hl y (List.mem_cons_of_mem _ hy)
        simp only [List.map_cons, sls, List.sum_cons]
        omega
    have b1 := a2 (ys.take (ys.length - freeN w)) fun y hy => List.mem_of_mem_take hy
    have b2 := a3 (ys.drop (ys.length - freeN w)) fun y hy => List.mem_of_mem_drop hy
    have b3 : (ys.map fun z => 182 * (flatP n z).length).sum = ((ys.take (ys.length - freeN w)).map fun z => 182 * (flatP n z).length).sum + ((ys.drop (ys.length - freeN w)).map fun z => 182 * (flatP n z).length).sum := by
      rw [← List.sum_append, ← List.map_append, List.take_append_drop]
    rw [b3]
    have c1 := sl_tup (.str w :: .str t :: .tuple (xs.map fun z => putS o n (z, b)) :: (ys.take (ys.length - freeN w) ++ (ys.drop (ys.length - freeN w)).map fun z => putS o n (z, b)))
    have c2 := sl_tup (xs.map fun z => putS o n (z, b))
    have c3 := sls_append (ys.take (ys.length - freeN w)) ((ys.drop (ys.length - freeN w)).map fun z => putS o n (z, b))
    simp only [sls] at *
    omega
/-! ### what may be shown -/
theorem showAll_of : ∀ {l : List PyData}, (∀ x, x ∈ l → x.showable = true) → PyData.showableAll l = true
  | [], _ => by simp only [PyData.showableAll]
  | x :: l, h => by
    simp only [PyData.showableAll, h x List.mem_cons_self, showAll_of fun y hy => h y (List.mem_cons_of_mem _ hy), Bool.and_self]
theorem Ex.show {zs : List Str} : ∀ {n : Nat} {x : PyData}, Ex zs n x → x.showable = true := by
  intro n x h
  induction h with
  | leaf n x h =>
    cases h with
    | int i h1 h2 =>
      have := int_log h1 h2
      simp only [PyData.showable, PyData.showableAll, Bool.and_true, Bool.true_and]
      exact decide_eq_true (by omega)
    | let_ i h1 h2 =>
      have := int_log (show -(10 ^ 18) ≤ i by omega) (show i ≤ 10 ^ 18 by omega)
      simp only [PyData.showable, PyData.showableAll, Bool.and_true, Bool.true_and]
      exact decide_eq_true (by omega)
    | key => simp only [PyData.showable, PyData.showableAll, Bool.and_true, Bool.true_and]
    | var z h => simp only [PyData.showable, PyData.showableAll, Bool.and_true, Bool.true_and]
  | cell n t v x h1 h2 h3 ih => simp only [PyData.showable, PyData.showableAll, Bool.and_true, Bool.true_and, ih]
  | op n o x y h1 h2 h3 ih1 ih2 => simp only [PyData.showable, PyData.showableAll, Bool.and_true, Bool.true_and, ih1, ih2]
  | iff n x y z h1 h2 h3 ih1 ih2 ih3 => simp only [PyData.showable, PyData.showableAll, Bool.and_true, Bool.true_and, ih1, ih2, ih3]
  | agg n o t xs ys h1 h2 h3 h4 h5 ih1 ih2 => simp only [PyData.showable, PyData.showableAll, Bool.and_true, Bool.true_and, showAll_of ih1, showAll_of ih2]
end K6

namespace K6
open PySem PySem.Spec PyProof.Rows L2 GR WX TX RZ
section
variable {P : Program} {w : World} {K : PySem.W.Frag} {mg : Str → Option Value} {base : Heap}
abbrev s_law_closed : Stmt := topS 31
theorem sc_law_closed : FnScope ["_law_deck_here", "_law_some"] ["_law_deck_here"] (defScope s_law_closed) := ⟨rfl, rfl, rfl, by decide +kernel, rfl, by decide +kernel, by decide +kernel⟩
theorem sl_ri {r : Int} (h1 : -(10 ^ 18) ≤ r) (h2 : r ≤ 10 ^ 18) : sl (.tuple [.str "int", .int r]) ≤ 34 := by
  have := sl_tup [.str "int", .int r]
  have := sl_word "int" (by decide)
  have := sl_int h1 h2
  simp only [sls] at *
  omega
theorem sl_rc {r : Int} (h1 : -(10 ^ 18) ≤ r) (h2 : r ≤ 10 ^ 18) : sl (.tuple [.str "cell", .str "a", .tuple [.str "int", .int r], .str "in"]) ≤ 80 := by
  have := sl_tup [.str "cell", .str "a", .tuple [.str "int", .int r], .str "in"]
  have := sl_word "cell" (by decide)
  have := sl_word "a" (by decide)
  have := sl_word "in" (by decide)
  have := sl_ri h1 h2
  simp only [sls] at *
  omega
abbrev cz : List Str := ["in", "a"]
theorem new_tup {H : Hp} {vs : List V} {ds : List PyData} {p : Addr} (hd : DpAll K H vs ds) (hf : flatDs ds = true) (np : H p = none) : Dp K (upd H p (.tup vs)) (.ref p) (.tuple ds) := .tup (.inl (.inl upd_same)) (dp_keepAll (KeepT.non np) _ _ hf hd)
/-- a closed one: what may stand for a key -/
def sp_closed (K : PySem.W.Frag) : Sp := fun vs H Q _ => ∃ (d c : Addr) (N : Int), vs = [.ref d] ∧ Deck H d c N ∧ N < 2 ^ 58 ∧ ∀ H' v x, Keep d c H H' → Deck H' d c (N + 4) → Ex cz 4 x → freeKey 4 x = false → (flatP 4 x).length ≤ 12 → sl x + 2 ≤ 182 → Dp K H' v x → Q v H'
theorem ok_closed {f f_law_draw f_law_pick : Addr} {fd fd_law_draw fd_law_pick : FuncData} {k : Nat} (F : Fun K "_law_closed" "_law_closed" s_law_closed f fd) (G_law_draw : FnOk P w K mg base CX0 k f_law_draw fd_law_draw ["_law_deck_here", "_law_most"] sp_draw)
    (g_law_draw : mg "_law_draw" = some (.ref f_law_draw)) (K_law_draw : PySem.W.keepIn K (.ref f_law_draw) = true) (b_law_draw : Binds K fd_law_draw ["_law_deck_here", "_law_most"] [])
    (G_law_pick : FnOk P w K mg base CX0 k f_law_pick fd_law_pick ["_law_deck_here", "_law_some"] (sp_pick K))
    (g_law_pick : mg "_law_pick" = some (.ref f_law_pick)) (K_law_pick : PySem.W.keepIn K (.ref f_law_pick) = true) (b_law_pick : Binds K fd_law_pick ["_law_deck_here", "_law_some"] []) :
    FnOk P w K mg base CX0 (k + 1) f fd ["_law_deck_here"] (sp_closed K) := by
  have nd := sc_law_closed.nd
  refine F.ok sc_law_closed (fun vs H Q E h => ?_) (fun cdv A outer s H vs Q E hr h => ?_)
  · obtain ⟨d, c, N, rfl, _⟩ := h
    rfl
  obtain ⟨d, c, N, rfl, D, hN, q⟩ := h
  refine ⟨_, (pss_cons (ps_set (i := 1) nd rfl (.inl rfl) (pe_lst (pa_cons (pe_tup (pa_cons pe_str (pa_cons (pe_call G_law_draw hr (by rfl) g_law_draw K_law_draw b_law_draw .nil pass0 (pa_cons (pv 0) (pa_cons pe_int pa_nil))) pa_nil))) (pa_cons (pe_tup (pa_cons pe_str (pa_cons pe_int pa_nil))) (pa_cons (pe_tup (pa_cons pe_str (pa_cons (pe_tup (pa_cons pe_str (pa_cons pe_int pa_nil))) (pa_cons (pe_tup (pa_cons pe_str (pa_cons (pe_tup (pa_cons pe_str pa_nil)) (pa_cons (pe_tup (pa_cons pe_str pa_nil)) pa_nil)))) pa_nil)))) pa_nil)))))
      (pss_cons (ps_expr (pe_bm PySem.F.plainAttrs_list PySem.F.slot_list_append PySem.F.type_list_append mt_append (pv 1) (pa_cons (pe_tup (pa_cons pe_str (pa_cons pe_str (pa_cons (pe_tup pa_nil) (pa_cons (pe_tup (pa_cons pe_str (pa_cons pe_str (pa_cons (pe_tup (pa_cons pe_str pa_nil)) (pa_cons pe_str pa_nil))))) (pa_cons (pe_tup (pa_cons pe_str (pa_cons (pe_tup (pa_cons pe_str pa_nil)) (pa_cons (pe_tup (pa_cons pe_str (pa_cons pe_int pa_nil))) pa_nil)))) (pa_cons (pe_tup (pa_cons pe_str (pa_cons pe_int pa_nil))) pa_nil))))))) pa_nil)))
      (pss_one (ps_ret (pe_call G_law_pick hr (by rfl) g_law_pick K_law_pick b_law_pick .nil pass0 (pa_cons (pv 0) (pa_cons (pe_op op_cat (pv 1) (pe_lst (pa_cons (pe_tup (pa_cons pe_str (pa_cons pe_str (pa_cons (pe_tup (pa_cons pe_str (pa_cons (pe_call G_law_draw hr (by rfl) g_law_draw K_law_draw b_law_draw .nil pass0 (pa_cons (pv 0) (pa_cons pe_int pa_nil))) pa_nil))) (pa_cons pe_str pa_nil))))) pa_nil))) pa_nil))))))), ?_⟩
  have hl1 : ∀ n, n ≤ 10 → n ≤ sizeLine := fun n h => small_le (by omega)
  refine ⟨.ref d, rfl, d, c, N, 9, rfl, D, by omega, by decide, by decide, fun H1 r1 k1 D1 r10 r11 => ⟨hl1 2 (by decide), fun p1 n1 => ⟨hl1 2 (by decide), fun p2 n2 => ⟨hl1 2 (by decide), fun p3 n3 => ⟨hl1 1 (by decide), fun p4 n4 => ⟨hl1 1 (by decide), fun p5 n5 => ⟨hl1 3 (by decide), fun p6 n6 => ⟨hl1 3 (by decide), fun p7 n7 => ⟨hl1 3 (by decide), fun l nl => ?_⟩⟩⟩⟩⟩⟩⟩⟩⟩
  have a1 := new_tup (K := K) (.cons (.str "int") (.cons (.int r1) .nil)) rfl n1
  have a2 := new_tup (K := K) (.cons (.str "let") (.cons (.int 3) .nil)) rfl n2
  have a3 := new_tup (K := K) (.cons (.str "int") (.cons (.int 2) .nil)) rfl n3
  have a4 := new_tup (K := K) (.cons (.str "key") .nil) rfl n4
  have a5 := new_tup (K := K) (.cons (.str "key") .nil) rfl n5
  have a6 := new_tup (K := K) (.cons (.str "+") (.cons (dp_keep (KeepT.non n5) _ _ rfl a4) (.cons a5 .nil))) rfl n6
  have a7 := new_tup (K := K) (.cons (.str "at") (.cons (dp_keep ((KeepT.non n4).trans ((KeepT.non n5).trans (KeepT.non n6))) _ _ rfl a3) (.cons a6 .nil))) rfl n7
  have k27 := (KeepT.non (o := .tup [.str "let", .int 3]) n2).trans ((KeepT.non (o := .tup [.str "int", .int 2]) n3).trans ((KeepT.non (o := .tup [.str "key"]) n4).trans ((KeepT.non (o := .tup [.str "key"]) n5).trans ((KeepT.non (o := .tup [.str "+", .ref p4, .ref p5]) n6).trans (KeepT.non (o := .tup [.str "at", .ref p3, .ref p6]) n7)))))
  have k37 := (KeepT.non (o := .tup [.str "int", .int 2]) n3).trans ((KeepT.non (o := .tup [.str "key"]) n4).trans ((KeepT.non (o := .tup [.str "key"]) n5).trans ((KeepT.non (o := .tup [.str "+", .ref p4, .ref p5]) n6).trans (KeepT.non (o := .tup [.str "at", .ref p3, .ref p6]) n7))))
  have b1 := dp_keep k27 _ _ rfl a1
  have b2 := dp_keep k37 _ _ rfl a2
  have s17 := (same_upd (o := .tup [.str "int", .int r1]) n1).trans ((same_upd (o := .tup [.str "let", .int 3]) n2).trans ((same_upd (o := .tup [.str "int", .int 2]) n3).trans ((same_upd (o := .tup [.str "key"]) n4).trans ((same_upd (o := .tup [.str "key"]) n5).trans ((same_upd (o := .tup [.str "+", .ref p4, .ref p5]) n6).trans (same_upd (o := .tup [.str "at", .ref p3, .ref p6]) n7))))))
  revert b1 b2 a7 s17 nl
  generalize upd (upd (upd (upd (upd (upd (upd H1 p1 (.tup [.str "int", .int r1])) p2 (.tup [.str "let", .int 3])) p3 (.tup [.str "int", .int 2])) p4 (.tup [.str "key"])) p5 (.tup [.str "key"])) p6 (.tup [.str "+", .ref p4, .ref p5])) p7 (.tup [.str "at", .ref p3, .ref p6]) = H2
  intro nl a7 b1 b2 s17
  have sl := same_upd (o := .lst [.ref p1, .ref p2, .ref p7]) nl
  have hl3 : upd H2 l (.lst [.ref p1, .ref p2, .ref p7]) l = some (.lst [.ref p1, .ref p2, .ref p7]) := upd_same
  have c1 := dp_keep (KeepT.of sl) _ _ rfl b1
  have c2 := dp_keep (KeepT.of sl) _ _ rfl b2
  have c7 := dp_keep (KeepT.of sl) _ _ rfl a7
  have s13 := s17.trans sl
  have hld : l ≠ d ∧ l ≠ c := (D1.same s17).new nl
  have nHl : H l = none := (k1.trans (Keep.of s17)).free nl hld.1 hld.2
  revert hl3 c1 c2 c7 s13
  generalize upd H2 l (.lst [.ref p1, .ref p2, .ref p7]) = H3
  intro hl3 c1 c2 c7 s13
  refine ⟨.ref l, rfl, .inl ⟨rfl, _, .inl (.inl hl3)⟩, hl1 0 (by decide), fun q1 m1 => ⟨hl1 1 (by decide), fun q2 m2 => ⟨hl1 4 (by decide), fun q3 m3 => ⟨hl1 1 (by decide), fun q4 m4 => ⟨hl1 2 (by decide), fun q5 m5 => ⟨hl1 3 (by decide), fun q6 m6 => ⟨hl1 2 (by decide), fun q7 m7 => ⟨hl1 6 (by decide), fun q8 m8 => ?_⟩⟩⟩⟩⟩⟩⟩⟩
  have f1 := new_tup (K := K) (vs := []) (ds := []) .nil rfl m1
  have f2 := new_tup (K := K) (.cons (.str "key") .nil) rfl m2
  have f3 := new_tup (K := K) (.cons (.str "cell") (.cons (.str "in") (.cons f2 (.cons (.str "in") .nil)))) rfl m3
  have f4 := new_tup (K := K) (.cons (.str "key") .nil) rfl m4
  have f5 := new_tup (K := K) (.cons (.str "int") (.cons (.int 5) .nil)) rfl m5
  have f6 := new_tup (K := K) (.cons (.str "<") (.cons (dp_keep (KeepT.non m5) _ _ rfl f4) (.cons f5 .nil))) rfl m6
  have f7 := new_tup (K := K) (.cons (.str "int") (.cons (.int 7) .nil)) rfl m7
  have t37 := (KeepT.non (o := .tup [.str "key"]) m4).trans ((KeepT.non (o := .tup [.str "int", .int 5]) m5).trans ((KeepT.non (o := .tup [.str "<", .ref q4, .ref q5]) m6).trans (KeepT.non (o := .tup [.str "int", .int 7]) m7)))
  have t17 := (KeepT.non (o := .tup [.str "key"]) m2).trans ((KeepT.non (o := .tup [.str "cell", .str "in", .ref q2, .str "in"]) m3).trans t37)
  have f8 := new_tup (K := K) (.cons (.str "first") (.cons (.str "in") (.cons (dp_keep t17 _ _ rfl f1) (.cons (dp_keep t37 _ _ rfl f3) (.cons (dp_keep (KeepT.non m7) _ _ rfl f6) (.cons f7 .nil)))))) rfl m8
  have s38 := (same_upd (o := .tup []) m1).trans ((same_upd (o := .tup [.str "key"]) m2).trans ((same_upd (o := .tup [.str "cell", .str "in", .ref q2, .str "in"]) m3).trans ((same_upd (o := .tup [.str "key"]) m4).trans ((same_upd (o := .tup [.str "int", .int 5]) m5).trans ((same_upd (o := .tup [.str "<", .ref q4, .ref q5]) m6).trans ((same_upd (o := .tup [.str "int", .int 7]) m7).trans (same_upd (o := .tup [.str "first", .str "in", .ref q1, .ref q3, .ref q6, .ref q7]) m8)))))))
  revert f8 s38
  generalize upd (upd (upd (upd (upd (upd (upd (upd H3 q1 (.tup [])) q2 (.tup [.str "key"])) q3 (.tup [.str "cell", .str "in", .ref q2, .str "in"])) q4 (.tup [.str "key"])) q5 (.tup [.str "int", .int 5])) q6 (.tup [.str "<", .ref q4, .ref q5])) q7 (.tup [.str "int", .int 7])) q8 (.tup [.str "first", .str "in", .ref q1, .ref q3, .ref q6, .ref q7]) = H4
  intro f8 s38
  have hl4 := s38 _ _ hl3
  refine ⟨l, _, _, rfl, rfl, hl4, small1000 (show 3 ≤ 1000 by decide), ?_⟩
  have k5 : KeepT H4 (upd H4 l (.lst ([.ref p1, .ref p2, .ref p7] ++ [.ref q8]))) := KeepT.lst hl4
  have hl5 : upd H4 l (.lst ([.ref p1, .ref p2, .ref p7] ++ [.ref q8])) l = some (.lst ([.ref p1, .ref p2, .ref p7] ++ [.ref q8])) := upd_same
  have kk := (KeepT.of s38).trans k5
  have g1 := dp_keep kk _ _ rfl c1
  have g2 := dp_keep kk _ _ rfl c2
  have g7 := dp_keep kk _ _ rfl c7
  have g8 := dp_keep k5 _ _ rfl f8
  have D5 := (D1.same (s13.trans s38)).upd (o := .lst ([.ref p1, .ref p2, .ref p7] ++ [.ref q8])) hld.1 hld.2
  have keep5 : Keep d c H (upd H4 l (.lst ([.ref p1, .ref p2, .ref p7] ++ [.ref q8]))) := fun b o h1 h2 e => by
    rw [upd_ne (ne_of_none e nHl)]
    exact s38 _ _ (s13 _ _ (k1 b o h1 h2 e))
  revert hl5 g1 g2 g7 g8 D5 keep5
  generalize upd H4 l (.lst ([.ref p1, .ref p2, .ref p7] ++ [.ref q8])) = H5
  intro hl5 g1 g2 g7 g8 D5 keep5
  refine ⟨.ref d, rfl, .ref l, rfl, .ref d, rfl, d, c, N + 1, 3, rfl, D5, by omega, by decide, by decide, fun H6 r6 k6 D6 r60 r61 => ⟨hl1 2 (by decide), fun t1 o1 => ⟨hl1 4 (by decide), fun t2 o2 => ⟨hl1 1 (by decide), fun l2 nl2 => ?_⟩⟩⟩⟩
  have kt6 := k6.t D5
  have i1 := new_tup (K := K) (.cons (.str "int") (.cons (.int r6) .nil)) rfl o1
  have i2 := new_tup (K := K) (.cons (.str "cell") (.cons (.str "a") (.cons i1 (.cons (.str "in") .nil)))) rfl o2
  have s68 := (same_upd (o := .tup [.str "int", .int r6]) o1).trans ((same_upd (o := .tup [.str "cell", .str "a", .ref t1, .str "in"]) o2).trans (same_upd (o := .lst [.ref t2]) nl2))
  have hl8 := s68 _ _ (k6 _ _ hld.1 hld.2 hl5)
  refine ⟨l, l2, _, _, rfl, rfl, hl8, upd_same, hl1 5 (by decide), fun l3 nl3 => ?_⟩
  have s9 := same_upd (o := .lst ([.ref p1, .ref p2, .ref p7] ++ [.ref q8] ++ [.ref t2])) nl3
  have s69 := s68.trans s9
  have D9 := D6.same s69
  have hn3 := (D6.same s68).new nl3
  refine .inl ⟨d, c, l3, N + 1 + 1, [.ref p1, .ref p2, .ref p7, .ref q8, .ref t2], rfl, D9, by omega, .inl (.inl upd_same), List.cons_ne_nil _ _, (show 5 ≤ 1000 by decide), hn3.1, hn3.2, fun H8 v k8 D8 hv => ?_⟩
  have kT := kt6.trans ((KeepT.of s69).trans (k8.t D9))
  have keepA := (keep5.trans k6).trans ((Keep.of s69).trans k8)
  simp only [List.mem_cons, List.not_mem_nil, or_false] at hv
  have E4 : ∀ x, Ex cz 3 x → Ex cz 4 x := fun x h => h.mono (by decide)
  rcases hv with rfl | rfl | rfl | rfl | rfl
  · exact q H8 _ _ keepA (D8.mono (by omega)) (.leaf 3 _ (.int r1 (by omega) (by omega))) rfl (show 1 ≤ 12 by decide) (by have := sl_ri (r := r1) (by omega) (by omega); omega) (dp_keep kT _ _ rfl g1)
  · exact q H8 _ _ keepA (D8.mono (by omega)) (.leaf 3 _ (.let_ 3 (by decide) (by decide))) rfl (show 1 ≤ 12 by decide) (by decide +kernel) (dp_keep kT _ _ rfl g2)
  · exact q H8 _ _ keepA (D8.mono (by omega)) (.op 3 "at" _ _ (by decide) (.leaf 2 _ (.int 2 (by decide) (by decide))) (.op 2 "+" _ _ (by decide) (.leaf 1 _ .key) (.leaf 1 _ .key))) rfl (show 5 ≤ 12 by decide) (by decide +kernel) (dp_keep kT _ _ rfl g7)
  · exact q H8 _ _ keepA (D8.mono (by omega)) (.agg 3 "first" "in" [] [.tuple [.str "cell", .str "in", .tuple [.str "key"], .str "in"], .tuple [.str "<", .tuple [.str "key"], .tuple [.str "int", .int 5]], .tuple [.str "int", .int 7]] (by decide) (by decide) (by decide) (fun x hx => (nomatch hx)) (fun z hz => by
      simp only [List.mem_cons, List.not_mem_nil, or_false] at hz
      rcases hz with rfl | rfl | rfl
      · exact .cell 2 "in" "in" _ (by decide) (by decide) (.leaf 1 _ .key)
      · exact .op 2 "<" _ _ (by decide) (.leaf 1 _ .key) (.leaf 1 _ (.int 5 (by decide) (by decide)))
      · exact .leaf 2 _ (.int 7 (by decide) (by decide)))) rfl (show 7 ≤ 12 by decide) (by decide +kernel) (dp_keep kT _ _ rfl g8)
  · exact q H8 _ _ keepA (D8.mono (by omega)) (.cell 3 "a" "in" _ (by decide) (by decide) (.leaf 2 _ (.int r6 (by omega) (by omega)))) rfl (show 2 ≤ 12 by decide) (by have := sl_rc (r := r6) (by omega) (by omega); omega) (dp_keep ((KeepT.of ((same_upd nl2).trans s9)).trans (k8.t D9)) _ _ rfl i2)
end
end K6

namespace GR
open PySem PySem.Spec PyProof.Rows L2
theorem FnG.mono {P : Program} {w : World} {K : PySem.W.Frag} {mg : Str → Option Value} {base : Heap} {CX : CXT} {j k : Nat} {f : Addr} {fd : FuncData} {ps : List Str} {sp : Sp} (F : FnG P w K mg base CX j f fd ps sp) (h : j ≤ k) : FnG P w K mg base CX k f fd ps sp :=
  ⟨F.size, fun A outer s H args us vs Q E g hr => F.go A outer s H args us vs Q E g (hr.mono h)⟩
/-! ### the signs of what repr shows -/
abbrev SO (x : Str) : Prop := ∀ c, c ∈ x.cps.toList → c < 0x110000
theorem so_iff {x : Str} : PyData.strOk x = true ↔ SO x := by
  unfold PyData.strOk
  rw [Array.all_eq_true']
  constructor
  · intro h c hc
    have := h c (by simpa using hc)
    simpa using this
  · intro h c hc
    have := h c (by simpa using hc)
    simpa using this
theorem so_append {x y : Str} (hx : SO x) (hy : SO y) : SO (x ++ y) := fun c hc => by
  rcases mem_cps_append.mp hc with h | h
  · exact hx c h
  · exact hy c h
theorem so_join {sep : Str} (hs : SO sep) {ts : List Str} (h : ∀ t, t ∈ ts → SO t) : SO (Str.join sep ts) := fun c hc => by
  rcases (mem_join sep c ts).mp hc with ⟨t, ht, hc⟩ | ⟨_, hc⟩
  · exact h t ht c hc
  · exact hs c hc
theorem hex_so (w c : Nat) : ∀ k, k ∈ List.replicate (w - ((Nat.toDigits 16 c).map Char.toNat).length) 48 ++ (Nat.toDigits 16 c).map Char.toNat → k < 0x110000 := by
  intro k hk
  rcases List.mem_append.mp hk with h | h
  · have := List.eq_of_mem_replicate h
    omega
  · obtain ⟨ch, _, rfl⟩ := List.mem_map.mp h
    have := ch.valid
    have e : ch.toNat = ch.val.toNat := rfl
    rcases this with h | ⟨_, h⟩
    · have h' : ch.val.toNat < 0xd800 := h
      omega
    · have h' : ch.val.toNat < 0x110000 := h
      omega
theorem reprChar_so {q c : Nat} (hc : c < 0x110000) : ∀ k, k ∈ Builtin.Str.reprChar q c → k < 0x110000 := by
  intro k hk
  have h8 := hex_so 8 c k
  have h4 := hex_so 4 c k
  have h2 := hex_so 2 c k
  unfold Builtin.Str.reprChar at hk
  dsimp only at hk
  repeat' split at hk
  all_goals first
    | (rcases List.mem_append.mp hk with hk | hk
       · (simp only [List.mem_cons, List.not_mem_nil, or_false] at hk; omega)
       · first | exact h2 hk | exact h4 hk | exact h8 hk)
    | (simp only [List.mem_cons, List.not_mem_nil, or_false] at hk; omega)
theorem fold_so {q : Nat} : ∀ (l : List Nat) (acc : Array Nat), (∀ c, c ∈ l → c < 0x110000) → (∀ c, c ∈ acc.toList → c < 0x110000) → ∀ c, c ∈ (l.foldl (fun out c => out ++ (Builtin.Str.reprChar q c).toArray) acc).toList → c < 0x110000
  | [], acc, _, h => h
  | d :: r, acc, hl, h => by
    rw [List.foldl_cons]
    refine fold_so r _ (fun c hc => hl c (List.mem_cons_of_mem _ hc)) fun c hc => ?_
    rw [Array.toList_append, List.mem_append] at hc
    rcases hc with hc | hc
    · exact h c hc
    · exact reprChar_so (hl d List.mem_cons_self) c (by simpa using hc)
theorem repr_so {x : Str} (h : SO x) : SO (reprText x) := fun c hc => by
  have hq : reprQuote x < 0x110000 := by
    unfold reprQuote
    split <;> decide
  unfold reprText at hc
  have hc' : c ∈ ((x.cps.foldl (fun out c => out ++ (Builtin.Str.reprChar (reprQuote x) c).toArray) #[reprQuote x]).push (reprQuote x)).toList := hc
  rw [Array.toList_push, List.mem_append] at hc'
  rcases hc' with hc' | hc'
  · rw [← Array.foldl_toList] at hc'
    refine fold_so x.cps.toList _ h (fun c hc => ?_) c hc'
    have : c = reprQuote x := by simpa using hc
    rw [this]
    exact hq
  · have : c = reprQuote x := by simpa using hc'
    rw [this]
    exact hq
mutual
theorem shown_so : ∀ d : PyData, d.canLay0 = true → SO d.shown
  | .none, _ => by rw [PyData.shown_none]; decide
  | .bool b, _ => by
    rw [PyData.shown_bool]
    cases b <;> decide
  | .int i, _ => fun c hc => by
    by_cases h : 57 < c
    · exact absurd hc (shown_int_free' (k := c) ⟨by omega, .inr h⟩ i)
    · omega
  | .str x, h => by
    rw [PyData.shown_str]
    exact repr_so (so_iff.mp (by simpa [PyData.canLay0] using h))
  | .list xs, h => by
    rw [PyData.shown_list]
    exact so_append (so_append (by decide) (so_join (by decide) (shownAll_so xs (by simpa [PyData.canLay0] using h)))) (by decide)
  | .tuple xs, h => by
    rw [PyData.shown_tuple]
    refine so_append (so_append (by decide) (so_join (by decide) (shownAll_so xs (by simpa [PyData.canLay0] using h)))) ?_
    split <;> decide
  | .dict _, h => by simp [PyData.canLay0] at h
theorem shownAll_so : ∀ xs : List PyData, PyData.canLayAll0 xs = true → ∀ t, t ∈ PyData.shownAll xs → SO t
  | [], _, t, ht => by rw [PyData.shownAll_nil] at ht; exact absurd ht (by simp)
  | x :: xs, h, t, ht => by
    have h' : x.canLay0 = true ∧ PyData.canLayAll0 xs = true := by simpa [PyData.canLayAll0] using h
    rw [PyData.shownAll_cons, List.mem_cons] at ht
    rcases ht with rfl | ht
    · exact shown_so x h'.1
    · exact shownAll_so xs h'.2 t ht
end
theorem shown_ok {d : PyData} (h : d.canLay0 = true) : PyData.strOk d.shown = true := so_iff.mpr (shown_so d h)
section
variable {X : Cx} {pins : List (Addr × Obj)} {σ : L2.St} {H : Hp} {s : Shared}
/-- repr of a truth -/
def rReprB : List V → Hp → VK → Prop := fun xs H Q => ∃ b, xs = [.bl b] ∧ Q (.str (PyData.bool b).shown) H
theorem call_reprB : CallR X (.builtin "repr") rReprB := by
  intro pins s σ H xs us Q I r h
  obtain ⟨b, rfl, q⟩ := h
  obtain ⟨u, rfl, rv⟩ := vals1 r
  obtain rfl : u = Value.bool b := rv
  rw [PyData.shown_bool] at q
  exact P.repr_of_bool ⟨.str _, H, I.kept fun _ _ e => e, ⟨_, rfl⟩, q⟩
end
end GR

namespace K6
open PySem PySem.Spec PyProof.Rows L2 GR WX TX RZ NdefX LamX
section
variable {P : Program} {w : World} {K : PySem.W.Frag} {mg : Str → Option Value} {base : Heap}
abbrev s_law_right : Stmt := topS 33
abbrev N_right : List Str := ["_law_thing", "_law_other", "_law_before", "_law_due", "_law_told", "_law_again", "_law_put_here", "_law_found"]
theorem sc_law_right : FnScope N_right ["_law_thing", "_law_other"] (defScope s_law_right) := ⟨rfl, rfl, rfl, by decide +kernel, rfl, by decide +kernel, by decide +kernel⟩
/-- what may be asked -/
structure Asked (zs : List Str) (x o : PyData) : Prop where
  ex : Ex zs 7 x
  eo : Ex zs 4 o
  fo : freeKey 4 o = false
  px : (flatP 7 x).length ≤ 55987
  po : (flatP 4 o).length ≤ 12
  so : sl o + 2 ≤ 182
  nm : ∀ z, z ∈ zs → Nm z
  ok : ∀ z, z ∈ zs → PyData.strOk z = true
  len : zs.length ≤ 60
def sp_right (K : PySem.W.Frag) (T : List NTab) : Sp := fun vs H Q _ => ∃ (v vo : V) (x o : PyData) (zs : List Str), vs = [v, vo] ∧ Dp K H v x ∧ Dp K H vo o ∧ Asked zs x o ∧ TabsN T H ∧ ∀ H', ExtN H H' → TabsN T H' → Q (.bl true) H'
theorem ok_right {T : List NTab} {f f_look f_plain f_closed f_simple f_put f_keyed : Addr} {fd d_look d_plain d_closed d_simple d_put d_keyed : FuncData} {k : Nat} (F : Fun K "_law_right" "_law_right" s_law_right f fd)
    (G_look : FnOk P w K mg base CX0 k f_look d_look ["_law_thing"] (sp_look K)) (g_look : mg "_law_look" = some (.ref f_look)) (K_look : PySem.W.keepIn K (.ref f_look) = true) (b_look : Binds K d_look ["_law_thing"] [])
    (G_plain : FnOk P w K mg base CX0 k f_plain d_plain ["expression"] (sp_test K plainE)) (g_plain : mg "is_plain" = some (.ref f_plain)) (K_plain : PySem.W.keepIn K (.ref f_plain) = true) (b_plain : Binds K d_plain ["expression"] [])
    (G_closed : FnOk P w K mg base CX0 k f_closed d_closed ["expression"] (sp_test K closedE)) (g_closed : mg "is_closed" = some (.ref f_closed)) (K_closed : PySem.W.keepIn K (.ref f_closed) = true) (b_closed : Binds K d_closed ["expression"] [])
    (G_simple : FnOk P w K mg base CX0 k f_simple d_simple ["expression"] (sp_test K simpleE)) (g_simple : mg "is_simple" = some (.ref f_simple)) (K_simple : PySem.W.keepIn K (.ref f_simple) = true) (b_simple : Binds K d_simple ["expression"] [])
    (G_put : FnOk P w K mg base CX0 k f_put d_put ps_put (sp_put K 7)) (g_put : mg "_law_put" = some (.ref f_put)) (K_put : PySem.W.keepIn K (.ref f_put) = true) (b_put : Binds K d_put ps_put [])
    (G_keyed : FnOk P w K mg base CX0 k f_keyed d_keyed ["expression", "other"] (sp_keyed K T)) (g_keyed : mg "keyed" = some (.ref f_keyed)) (K_keyed : PySem.W.keepIn K (.ref f_keyed) = true) (b_keyed : Binds K d_keyed ["expression", "other"] [])
    (mrepr : mg "repr" = none) : FnG P w K mg base CX0 (k + 1) f fd ["_law_thing", "_law_other"] (sp_right K T) := by
  have nd := sc_law_right.nd
  refine ok_g F sc_law_right (fun vs H Q E h => ?_) (fun cdv A outer s H vs Q E hg hr h => ?_)
  · obtain ⟨v, vo, x, o, zs, rfl, _⟩ := h
    rfl
  obtain ⟨v, vo, x, o, zs, rfl, hx, ho, B, hTT, q⟩ := h
  refine ⟨_, (pss_cons (ps_par (i := 2) (j := 3) rfl nd rfl rfl (by decide) rfl rfl (pa_cons (pe_callB (call_reprD hg hr) (by rfl) mrepr boot_repr (pa_cons (pe_lst (pa_cons (pv 0) (pa_cons (pv 1) pa_nil))) pa_nil)) (pa_cons (pe_call G_look hr (by rfl) g_look K_look b_look .nil pass0 (pa_cons (pv 0) pa_nil)) pa_nil)) (by rfl))
      (pss_cons (ps_set (i := 4) nd rfl (.inl rfl) (pe_tup (pa_cons (pe_call G_plain hr (by rfl) g_plain K_plain b_plain .nil pass0 (pa_cons (pv 0) pa_nil)) (pa_cons (pe_call G_closed hr (by rfl) g_closed K_closed b_closed .nil pass0 (pa_cons (pv 0) pa_nil)) (pa_cons (pe_call G_simple hr (by rfl) g_simple K_simple b_simple .nil pass0 (pa_cons (pv 0) pa_nil)) pa_nil)))))
      (pss_cons (ps_set (i := 5) nd rfl (.inl rfl) (pe_tup (pa_cons (pe_call G_plain hr (by rfl) g_plain K_plain b_plain .nil pass0 (pa_cons (pv 0) pa_nil)) (pa_cons (pe_call G_closed hr (by rfl) g_closed K_closed b_closed .nil pass0 (pa_cons (pv 0) pa_nil)) (pa_cons (pe_call G_simple hr (by rfl) g_simple K_simple b_simple .nil pass0 (pa_cons (pv 0) pa_nil)) pa_nil)))))
      (pss_cons (ps_set (i := 6) nd rfl (.inl rfl) (pe_call G_put hr (by rfl) g_put K_put b_put .nil pass0 (pa_cons (pv 0) (pa_cons (pv 1) (pa_cons pe_bl pa_nil)))))
      (pss_cons (ps_set (i := 7) nd rfl (.inl rfl) (pe_call G_keyed hr (by rfl) g_keyed K_keyed b_keyed .nil pass0 (pa_cons (pv 0) (pa_cons (pv 1) pa_nil))))
      (pss_cons (ps_if (pt_cmpR (op_neD hr.units) (pe_lst (pa_cons (pe_callB (call_reprD hg hr) (by rfl) mrepr boot_repr (pa_cons (pv 4) pa_nil)) (pa_cons (pe_callB (call_reprD hg hr) (by rfl) mrepr boot_repr (pa_cons (pv 5) pa_nil)) (pa_cons (pe_callB (call_reprD hg hr) (by rfl) mrepr boot_repr (pa_cons (pv 7) pa_nil)) pa_nil)))) (pe_lst (pa_cons (pe_callB (call_reprD hg hr) (by rfl) mrepr boot_repr (pa_cons (pv 3) pa_nil)) (pa_cons (pe_callB (call_reprD hg hr) (by rfl) mrepr boot_repr (pa_cons (pv 3) pa_nil)) (pa_cons (pe_callB (call_reprD hg hr) (by rfl) mrepr boot_repr (pa_cons (pv 6) pa_nil)) pa_nil)))) (nomark _))
      (pss_one (ps_ret pe_bl))
      pss_nil)
      (pss_cons (ps_if (PW.pt (pw_or (pt_cmpR op_ne (pe_callB (call_reprD hg hr) (by rfl) mrepr boot_repr (pa_cons (pe_call G_keyed hr (by rfl) g_keyed K_keyed b_keyed .nil pass0 (pa_cons (pv 7) (pa_cons (pe_tup (pa_cons pe_str (pa_cons pe_int pa_nil))) pa_nil))) pa_nil)) (pe_callB (call_reprD hg hr) (by rfl) mrepr boot_repr (pa_cons (pv 7) pa_nil)) (nomark _)) (pw_or1 (pt_cmpR op_ne (pe_callB call_reprB (by rfl) mrepr boot_repr (pa_cons (pe_call G_closed hr (by rfl) g_closed K_closed b_closed .nil pass0 (pa_cons (pv 7) pa_nil)) pa_nil)) (pe_callB call_reprB (by rfl) mrepr boot_repr (pa_cons (pe_ix ix_tup (pe_call G_look hr (by rfl) g_look K_look b_look .nil pass0 (pa_cons (pv 7) pa_nil)) pe_int (fun _ _ => rfl)) pa_nil)) (nomark _)))))
      (pss_one (ps_ret pe_bl))
      pss_nil)
      (pss_one (ps_ret (pe_cmpR op_eq (pe_callB (call_reprD hg hr) (by rfl) mrepr boot_repr (pa_cons (pe_lst (pa_cons (pv 0) (pa_cons (pv 1) pa_nil))) pa_nil)) (pv 2) (nomark _))))))))))), ?_⟩
  have z24 : sizeLine = 16777216 := by decide
  have ko : KeepT H H := KeepT.refl
  have lx := len_put (o := o) B.nm B.so B.ex false
  have lx2 := len_put (o := o) B.nm B.so B.ex true
  have e2 : putS o 7 (x, true) = x := rfl
  rw [e2] at lx2
  have ek : putS o 7 (x, false) = kd o 7 x := kd_put.symm
  rw [ek] at lx
  have exk : Ex zs 11 (kd o 7 x) := kd_ex B.eo B.ex
  have dk := depth_of exk
  have dx := depth_of B.ex
  have dO := depth_of B.eo
  have bP := B.px
  have bO := B.so
  have l55 : (flatP 7 x).length ≤ 2100000 := by omega
  refine ⟨v, rfl, vo, rfl, small_le (show 2 ≤ 1000 by decide), fun l nl => ?_⟩
  have sl0 := same_upd (o := .lst [v, vo]) nl
  have hl0 : upd H l (.lst [v, vo]) l = some (.lst [v, vo]) := upd_same
  have hx0 := dp_keep (KeepT.of sl0) _ _ B.ex.flat hx
  have ho0 := dp_keep (KeepT.of sl0) _ _ B.eo.flat ho
  revert hl0 hx0 ho0 sl0
  generalize upd H l (.lst [v, vo]) = H0
  intro sl0 hl0 hx0 ho0
  have sh2 : (PyData.list [x, o]).showable = true := by simp only [PyData.showable, PyData.showableAll, B.ex.show, B.eo.show, Bool.and_self]
  have dp2 : (PyData.list [x, o]).depth ≤ 60 := by
    simp only [PyData.depth, PyData.depthAll]
    omega
  have ln2 : (PyData.list [x, o]).shown.length ≤ sizeLine := by
    have h1 := sl_lst [x, o]
    have h2 : sl (PyData.list [x, o]) = (PyData.list [x, o]).shown.length := rfl
    simp only [sls] at h1
    omega
  refine ⟨l, .list [x, o], rfl, .lst (.inl (.inl hl0)) (.cons hx0 (.cons ho0 .nil)), sh2, dp2, ln2, ?_⟩
  refine ⟨v, rfl, v, x, zs, 7, rfl, hx0, B.ex, l55, by decide, B.ok, fun H1 p s1 hp np => ?_⟩
  refine ⟨_, _, rfl, ?_⟩
  have hx1 := dp_keep (KeepT.of s1) _ _ B.ex.flat hx0
  have ho1 := dp_keep (KeepT.of s1) _ _ B.eo.flat ho0
  have hp1 : H1 p = some (.tup [.bl (plainE 7 x), .bl (closedE 7 x), .bl (simpleE 7 x)]) := hp
  refine ⟨v, rfl, v, x, zs, 7, rfl, hx1, B.ex, l55, by decide, B.len, B.ok, fun H2 s2 => ?_⟩
  have hx2 := dp_keep (KeepT.of s2) _ _ B.ex.flat hx1
  refine ⟨v, rfl, v, x, zs, 7, rfl, hx2, B.ex, l55, by decide, B.len, B.ok, fun H3 s3 => ?_⟩
  have hx3 := dp_keep (KeepT.of s3) _ _ B.ex.flat hx2
  refine ⟨v, rfl, v, x, zs, 7, rfl, hx3, B.ex, l55, by decide, B.len, B.ok, fun H4 s4 => ?_⟩
  have hx4 := dp_keep (KeepT.of s4) _ _ B.ex.flat hx3
  refine ⟨small_le (show 3 ≤ 1000 by decide), fun t1 nt1 => ?_⟩
  have s5 := same_upd (o := .tup [.bl (plainE 7 x), .bl (closedE 7 x), .bl (simpleE 7 x)]) nt1
  have ht1 : upd H4 t1 (.tup [.bl (plainE 7 x), .bl (closedE 7 x), .bl (simpleE 7 x)]) t1 = some (.tup [.bl (plainE 7 x), .bl (closedE 7 x), .bl (simpleE 7 x)]) := upd_same
  revert ht1 s5
  generalize upd H4 t1 (.tup [.bl (plainE 7 x), .bl (closedE 7 x), .bl (simpleE 7 x)]) = H5
  intro s5 ht1
  have hx5 := dp_keep (KeepT.of s5) _ _ B.ex.flat hx4
  refine ⟨v, rfl, v, x, zs, 7, rfl, hx5, B.ex, l55, by decide, B.len, B.ok, fun H6 s6 => ?_⟩
  have hx6 := dp_keep (KeepT.of s6) _ _ B.ex.flat hx5
  refine ⟨v, rfl, v, x, zs, 7, rfl, hx6, B.ex, l55, by decide, B.len, B.ok, fun H7 s7 => ?_⟩
  have hx7 := dp_keep (KeepT.of s7) _ _ B.ex.flat hx6
  refine ⟨v, rfl, v, x, zs, 7, rfl, hx7, B.ex, l55, by decide, B.len, B.ok, fun H8 s8 => ?_⟩
  have hx8 := dp_keep (KeepT.of s8) _ _ B.ex.flat hx7
  refine ⟨small_le (show 3 ≤ 1000 by decide), fun t2 nt2 => ?_⟩
  have s9 := same_upd (o := .tup [.bl (plainE 7 x), .bl (closedE 7 x), .bl (simpleE 7 x)]) nt2
  have ht2 : upd H8 t2 (.tup [.bl (plainE 7 x), .bl (closedE 7 x), .bl (simpleE 7 x)]) t2 = some (.tup [.bl (plainE 7 x), .bl (closedE 7 x), .bl (simpleE 7 x)]) := upd_same
  revert ht2 s9
  generalize upd H8 t2 (.tup [.bl (plainE 7 x), .bl (closedE 7 x), .bl (simpleE 7 x)]) = H9
  intro s9 ht2
  have s19 : Same H1 H9 := s2.trans (s3.trans (s4.trans (s5.trans (s6.trans (s7.trans (s8.trans s9))))))
  have s59 : Same H5 H9 := s6.trans (s7.trans (s8.trans s9))
  have hx9 := dp_keep (KeepT.of s9) _ _ B.ex.flat hx8
  have ho9 := dp_keep (KeepT.of s19) _ _ B.eo.flat ho1
  have hp9 := s19 _ _ hp1
  have ht19 := s59 _ _ ht1
  -- put, keyed
  refine ⟨v, rfl, vo, rfl, v, vo, x, o, zs, false, rfl, hx9, B.ex, ho9, B.eo.flat, lay_of B.ok B.eo, by omega, B.ok, by decide, fun H10 vp s10 hvp => ?_⟩
  rw [ek] at hvp
  have hx10 := dp_keep (KeepT.of s10) _ _ B.ex.flat hx9
  have ho10 := dp_keep (KeepT.of s10) _ _ B.eo.flat ho9
  have s010 := sl0.trans (s1.trans (s19.trans s10))
  have hT10 : TabsN T H10 := fun a ha => (hTT a ha).ext s010
  refine ⟨v, rfl, vo, rfl, v, vo, x, o, zs, 7, rfl, hx10, B.ex, ho10, B.eo.flat, l55, hT10, fun H11 vk s11 hT11 hvk => ?_⟩
  have hx11 := dp_keep (KeepT.ext s11) _ _ B.ex.flat hx10
  have ho11 := dp_keep (KeepT.ext s11) _ _ B.eo.flat ho10
  have hvp11 := dp_keep (KeepT.ext s11) _ _ exk.flat hvp
  have hp11 := s11 _ _ (s10 _ _ hp9) (fun _ z => by cases z)
  have ht11 := s11 _ _ (s10 _ _ ht19) (fun _ z => by cases z)
  have ht211 := s11 _ _ (s10 _ _ ht2) (fun _ z => by cases z)
  have shL : (lookD 7 x).showable = true := by simp only [lookD, PyData.showable, PyData.showableAll, Bool.and_self]
  have dpL : (lookD 7 x).depth ≤ 60 := by
    simp only [lookD, PyData.depth, PyData.depthAll]
    omega
  have layL : (lookD 7 x).canLay0 = true := by simp only [lookD, PyData.canLay0, PyData.canLayAll0, Bool.and_self]
  have bl5 : ∀ b : Bool, sl (.bool b) ≤ 5 := fun b => by cases b <;> decide
  have lnL : (lookD 7 x).shown.length ≤ sizeLine := by
    have h1 := sl_tup [.bool (plainE 7 x), .bool (closedE 7 x), .bool (simpleE 7 x)]
    have h2 : sl (PyData.tuple [.bool (plainE 7 x), .bool (closedE 7 x), .bool (simpleE 7 x)]) = (lookD 7 x).shown.length := rfl
    have h3 := bl5 (plainE 7 x)
    have h4 := bl5 (closedE 7 x)
    have h5 := bl5 (simpleE 7 x)
    simp only [sls] at h1
    omega
  have look : ∀ (H : Hp) (a : Addr), H a = some (.tup [.bl (plainE 7 x), .bl (closedE 7 x), .bl (simpleE 7 x)]) → Dp K H (.ref a) (lookD 7 x) := fun H a h => .tup (.inl (.inl h)) (.cons (.bl _) (.cons (.bl _) (.cons (.bl _) .nil)))
  have lnK : (kd o 7 x).shown.length ≤ sizeLine := by
    have h2 : sl (kd o 7 x) = (kd o 7 x).shown.length := rfl
    omega
  obtain ⟨ak, rfl⟩ : ∃ ak, vk = .ref ak := by
    obtain ⟨w1, f1, r1, e1, _, _⟩ := exk.form
    rw [e1] at hvk
    cases hvk with
    | tup h1 h2 => exact ⟨_, rfl⟩
  obtain ⟨ap, rfl⟩ : ∃ ap, vp = .ref ap := by
    obtain ⟨w1, f1, r1, e1, _, _⟩ := exk.form
    rw [e1] at hvp
    cases hvp with
    | tup h1 h2 => exact ⟨_, rfl⟩
  have dtx : ∀ (H : Hp), DpAll K H [.str (lookD 7 x).shown, .str (lookD 7 x).shown, .str (kd o 7 x).shown] [.str (lookD 7 x).shown, .str (lookD 7 x).shown, .str (kd o 7 x).shown] := fun H => .cons (.str _) (.cons (.str _) (.cons (.str _) .nil))
  have shp : SeqAt.shaped (.list [.str (lookD 7 x).shown, .str (lookD 7 x).shown, .str (kd o 7 x).shown]) = true := by
    have a1 := shown_ok layL
    have a2 := shown_ok (lay_of B.ok exk)
    unfold SeqAt.shaped
    rw [Bool.and_eq_true]
    refine ⟨by simp only [PyData.canLay0, PyData.canLayAll0, a1, a2, Bool.and_self], decide_eq_true ?_⟩
    simp only [PyData.depth, PyData.depthAll]
    omega
  have eqt : (!PyData.eqv (.list [.str (lookD 7 x).shown, .str (lookD 7 x).shown, .str (kd o 7 x).shown]) (.list [.str (lookD 7 x).shown, .str (lookD 7 x).shown, .str (kd o 7 x).shown])) = false := by
    simp [PyData.eqv, PyData.eqvAll]
  refine ⟨.ref t1, rfl, t1, lookD 7 x, rfl, look _ _ ht11, shL, dpL, lnL, ?_⟩
  refine ⟨.ref t2, rfl, t2, lookD 7 x, rfl, look _ _ ht211, shL, dpL, lnL, ?_⟩
  refine ⟨.ref ak, rfl, ak, kd o 7 x, rfl, hvk, exk.show, by omega, lnK, ?_⟩
  refine ⟨small_le (show 3 ≤ 1000 by decide), fun l1 nl1 => ?_⟩
  have s12 := same_upd (o := .lst [.str (lookD 7 x).shown, .str (lookD 7 x).shown, .str (kd o 7 x).shown]) nl1
  have hl1 : upd H11 l1 (.lst [.str (lookD 7 x).shown, .str (lookD 7 x).shown, .str (kd o 7 x).shown]) l1 = some (.lst [.str (lookD 7 x).shown, .str (lookD 7 x).shown, .str (kd o 7 x).shown]) := upd_same
  revert hl1 s12
  generalize upd H11 l1 (.lst [.str (lookD 7 x).shown, .str (lookD 7 x).shown, .str (kd o 7 x).shown]) = H12
  intro s12 hl1
  have hp12 := s12 _ _ hp11
  refine ⟨.ref p, rfl, p, lookD 7 x, rfl, look _ _ hp12, shL, dpL, lnL, ?_⟩
  refine ⟨.ref p, rfl, p, lookD 7 x, rfl, look _ _ hp12, shL, dpL, lnL, ?_⟩
  refine ⟨.ref ap, rfl, ap, kd o 7 x, rfl, dp_keep (KeepT.of s12) _ _ exk.flat hvp11, exk.show, by omega, lnK, ?_⟩
  refine ⟨small_le (show 3 ≤ 1000 by decide), fun l2 nl2 => ?_⟩
  have s13 := same_upd (o := .lst [.str (lookD 7 x).shown, .str (lookD 7 x).shown, .str (kd o 7 x).shown]) nl2
  have hl2 : upd H12 l2 (.lst [.str (lookD 7 x).shown, .str (lookD 7 x).shown, .str (kd o 7 x).shown]) l2 = some (.lst [.str (lookD 7 x).shown, .str (lookD 7 x).shown, .str (kd o 7 x).shown]) := upd_same
  have hl12 := s13 _ _ hl1
  revert hl2 s13 hl12
  generalize upd H12 l2 (.lst [.str (lookD 7 x).shown, .str (lookD 7 x).shown, .str (kd o 7 x).shown]) = H13
  intro s13 hl2 hl12
  refine ⟨_, _, .lst (.inl (.inl hl12)) (dtx _), .lst (.inl (.inl hl2)) (dtx _), shp, shp, ?_⟩
  rw [eqt]
  refine ⟨_, rfl, ite2 (fun e => (nomatch e)) (fun _ => ?_)⟩
  have s1113 := s12.trans s13
  have hvk13 := dp_keep (KeepT.of s1113) _ _ exk.flat hvk
  have hx13 := dp_keep (KeepT.of s1113) _ _ B.ex.flat hx11
  have ho13 := dp_keep (KeepT.of s1113) _ _ B.eo.flat ho11
  have hk11 : (flatP 11 (kd o 7 x)).length ≤ 2100000 := by
    have h1 := kd_size B.eo B.ex
    have h2 : (flatP 7 x).length * (flatP 4 o).length ≤ 55987 * 12 := Nat.mul_le_mul B.px B.po
    have h3 : (flatP (7 + 4) (kd o 7 x)).length ≤ 55987 * 12 := Nat.le_trans h1 h2
    have h4 : (flatP 11 (kd o 7 x)).length ≤ 55987 * 12 := h3
    omega
  have fk : freeKey 11 (kd o 7 x) = false := kd_free B.eo B.fo B.ex
  refine ⟨.ref ak, rfl, small_le (show 2 ≤ 1000 by decide), fun t3 nt3 => ?_⟩
  have s14 := same_upd (o := .tup [.str "int", .int 99]) nt3
  have ht3 : upd H13 t3 (.tup [.str "int", .int 99]) t3 = some (.tup [.str "int", .int 99]) := upd_same
  revert ht3 s14
  generalize upd H13 t3 (.tup [.str "int", .int 99]) = H14
  intro s14 ht3
  have hvk14 := dp_keep (KeepT.of s14) _ _ exk.flat hvk13
  have hT14 : TabsN T H14 := fun a ha => (hT11 a ha).ext (s1113.trans s14)
  refine ⟨.ref ak, .ref t3, kd o 7 x, .tuple [.str "int", .int 99], zs, 11, rfl, hvk14, exk, .tup (.inl (.inl ht3)) (.cons (.str _) (.cons (.int _) .nil)), by simp only [flatD, flatDs, Bool.and_self], hk11, hT14, fun H15 v5 s15 hT15 hv5 => ?_⟩
  rw [kd_id exk fk] at hv5
  obtain ⟨a5, rfl⟩ : ∃ a5, v5 = .ref a5 := by
    obtain ⟨w1, f1, r1, e1, _, _⟩ := exk.form
    rw [e1] at hv5
    cases hv5 with
    | tup h1 h2 => exact ⟨_, rfl⟩
  have hvk15 := dp_keep (KeepT.ext s15) _ _ exk.flat hvk14
  refine ⟨a5, kd o 7 x, rfl, hv5, exk.show, by omega, lnK, ?_⟩
  refine ⟨.ref ak, rfl, ak, kd o 7 x, rfl, hvk15, exk.show, by omega, lnK, ?_⟩
  refine ⟨rfl, ?_⟩
  rw [show (!decide (V.str (kd o 7 x).shown = V.str (kd o 7 x).shown)) = false from by simp]
  refine ⟨_, rfl, ite2 (fun e => (nomatch e)) (fun _ => ?_)⟩
  refine ⟨.ref ak, rfl, .ref ak, kd o 7 x, zs, 11, rfl, hvk15, exk, hk11, by decide, B.len, B.ok, fun H16 s16 => ?_⟩
  have hvk16 := dp_keep (KeepT.of s16) _ _ exk.flat hvk15
  refine ⟨_, rfl, ?_⟩
  refine ⟨.ref ak, rfl, .ref ak, kd o 7 x, zs, 11, rfl, hvk16, exk, hk11, by decide, B.ok, fun H17 p2 s17 hp2 np2 => ?_⟩
  refine ⟨p2, _, 1, _, rfl, rfl, .inl (.inl hp2), at1, ?_⟩
  refine ⟨_, rfl, ?_⟩
  refine ⟨rfl, ?_⟩
  rw [show (!decide (V.str (PyData.bool (closedE 11 (kd o 7 x))).shown = V.str (PyData.bool (closedE 11 (kd o 7 x))).shown)) = false from by simp]
  refine ⟨_, rfl, ite2 (fun e => (nomatch e)) (fun _ => ?_)⟩
  have s1317 := (ExtN.of s14).trans (s15.trans ((ExtN.of s16).trans (ExtN.of s17)))
  have hx17 := dp_keep (KeepT.ext s1317) _ _ B.ex.flat hx13
  have ho17 := dp_keep (KeepT.ext s1317) _ _ B.eo.flat ho13
  refine ⟨v, rfl, vo, rfl, small_le (show 2 ≤ 1000 by decide), fun l3 nl3 => ?_⟩
  have s18 := same_upd (o := .lst [v, vo]) nl3
  have hl3 : upd H17 l3 (.lst [v, vo]) l3 = some (.lst [v, vo]) := upd_same
  revert hl3 s18
  generalize upd H17 l3 (.lst [v, vo]) = H18
  intro s18 hl3
  refine ⟨l3, .list [x, o], rfl, .lst (.inl (.inl hl3)) (.cons (dp_keep (KeepT.of s18) _ _ B.ex.flat hx17) (.cons (dp_keep (KeepT.of s18) _ _ B.eo.flat ho17) .nil)), sh2, dp2, ln2, ?_⟩
  refine ⟨_, rfl, rfl, ?_⟩
  rw [show decide (V.str (PyData.list [x, o]).shown = V.str (PyData.list [x, o]).shown) = true from by simp]
  exact q _ ((ExtN.of s010).trans (s11.trans ((ExtN.of s1113).trans (s1317.trans (ExtN.of s18))))) (fun a ha => (hT15 a ha).ext ((s16.trans s17).trans s18))
end
end K6

/-! a tuple times one is itself -/
namespace L2
open PySem PySem.Spec PyProof.Rows
theorem tuple_mul1 (l : Addr) (items : Array Value) (n : Nat) (dd : Option Addr) (sl : Array (Option Value)) (u : Tok) :
    Meets (Builtin.«tuple.__mul__» ⟨[.ref l, .int 1 u], []⟩) (fun _ R s => s.heap.get? l = some { cls := .type "tuple", dict := dd, data := .seq items n, slots := sl } ∧ R (.ok (.ret (Value.ref l))) s) :=
  .of_wp fun prog w A R s h => by
    obtain ⟨hp, g, d, tk, os⟩ := s
    obtain ⟨hl, h⟩ := h
    have f1 := AutoSeq1.idx_int
    have c0 : (decide ((1 : Int) < -(2 ^ 63)) || decide ((1 : Int) ≥ 2 ^ 63)) = false := by decide
    have c1 : (items.isEmpty || (1 : Int) == 1) = true := by cases items.isEmpty <;> decide
    wp_walk using wpAny_loadPart' hl
    repeat (first
      | (refine wpAny_ite_false (decide_eq_false (by rw [c0]; exact Bool.false_ne_true)) ?_; wp_walk using wpAny_loadPart' hl)
      | (refine wpAny_ite_true (decide_eq_true (by rw [c1])) ?_; wp_walk using wpAny_loadPart' hl))
    exact ⟨_, rfl, h⟩
def rRepA (K : PySem.W.Frag) : R2 := fun x y H Q => ∃ l k xs, x = .ref l ∧ y = .int k ∧ SqT K H l xs ∧ xs ≠ [] ∧ 1 ≤ k ∧ k ≤ 1000 ∧ xs.length ≤ 1000 ∧ (k = 1 → Q (.ref l) H) ∧ (2 ≤ k → ∀ p, H p = none → Q (.ref p) (upd H p (.tup (List.replicate k.toNat xs).flatten)))
section
variable {X : Cx}
theorem op_repA : OpR X (binaryOp .Mult) (rRepA X.K) := by
  intro pins s σ H x y v u Q I rx ry h
  obtain ⟨l, k, xs, rfl, rfl, hT, hne, h1, h2, hz, q1, q2⟩ := h
  by_cases e : k = 1
  · subst e
    cases rx
    obtain ⟨t, rfl⟩ := ry
    obtain ⟨its, r, ⟨⟨cls, dd, data, sl⟩, ho, hc, n, hd⟩, hs⟩ := I.tuple hT
    simp only at hc hd
    subst hc hd
    refine wpAny_binaryOp_repeat_ref (T := "tuple") (U := "int") (by decide) ⟨_, ho, rfl⟩ (fun s' => typeIs_int s' 1 t) noFill_tuple_mul F.fills_int_mul F.slot_int_rmul repeat_tuple F.slot_int_index.lookup
      (call_meets F.slot_int_rmul (typeIs_int s 1 t) F.entry_int_rmul (F.args_int_rmul_2 _ _) (int_rmul_tuple 1 t l its.toArray n dd sl)
        ⟨ho, rfl, ⟨_, ho, rfl⟩, call_meets F.slot_tuple_mul ⟨_, ho, rfl⟩ F.entry_tuple_mul (F.args_tuple_mul_2 _ _) (tuple_mul1 l its.toArray n dd sl t) ⟨ho, ?_⟩⟩)
    exact ⟨.ref l, H, I, rfl, q1 rfl⟩
  · exact op_repT pins s σ H _ _ v u Q I rx ry ⟨l, k, xs, rfl, rfl, hT, hne, by omega, h2, hz, q2 (by omega)⟩
end
end L2

namespace K6
open PySem PySem.Spec PyProof.Rows L2 GR WX TX RZ
abbrev hz : List Str := ["in", "a", "b"]
abbrev keyD : PyData := .tuple [.str "key"]
abbrev oneD : PyData := .tuple [.str "int", .int 1]
theorem ex_key (n : Nat) : Ex hz (n + 1) keyD := .leaf n _ .key
theorem ex_one (n : Nat) : Ex hz (n + 1) oneD := .leaf n _ (.int 1 (by decide) (by decide))
/-- the list at fo holds expressions, at most n; all else stays -/
def HInv (K : PySem.W.Frag) (H0 : Hp) (fo : Addr) (n : Nat) (H : Hp) : Prop := ∃ us ds, H fo = some (.lst us) ∧ DpAll K H us ds ∧ (∀ d, d ∈ ds → Ex hz 4 d) ∧ us.length ≤ n ∧ ∀ b ob, b ≠ fo → H0 b = some ob → H b = some ob
theorem flat_ex {zs : List Str} {n : Nat} {ds : List PyData} (h : ∀ d, d ∈ ds → Ex zs n d) : flatDs ds = true := flatDs_of fun d hd => (h d hd).flat
theorem HInv.same {K : PySem.W.Frag} {H0 H H' : Hp} {fo : Addr} {n : Nat} (F : HInv K H0 fo n H) (s : Same H H') : HInv K H0 fo n H' := by
  obtain ⟨us, ds, h1, h2, h3, h4, h5⟩ := F
  exact ⟨us, ds, s _ _ h1, dp_keepAll (KeepT.of s) _ _ (flat_ex h3) h2, h3, h4, fun b ob nb e => s _ _ (h5 b ob nb e)⟩
theorem HInv.mono {K : PySem.W.Frag} {H0 H : Hp} {fo : Addr} {n m : Nat} (F : HInv K H0 fo n H) (h : n ≤ m) : HInv K H0 fo m H := by
  obtain ⟨us, ds, h1, h2, h3, h4, h5⟩ := F
  exact ⟨us, ds, h1, h2, h3, Nat.le_trans h4 h, h5⟩
theorem HInv.app {K : PySem.W.Frag} {H0 H : Hp} {fo : Addr} {n : Nat} (F : HInv K H0 fo n H) {v : V} {x : PyData} (hv : Dp K H v x) (hx : Ex hz 4 x) : ∃ us, H fo = some (.lst us) ∧ us.length ≤ n ∧ HInv K H0 fo (n + 1) (upd H fo (.lst (us ++ [v]))) := by
  obtain ⟨us, ds, h1, h2, h3, h4, h5⟩ := F
  have kt : KeepT H (upd H fo (.lst (us ++ [v]))) := KeepT.lst h1
  refine ⟨us, h1, h4, us ++ [v], ds ++ [x], upd_same, dpAll_append (dp_keepAll kt _ _ (flat_ex h3) h2) (.cons (dp_keep kt _ _ hx.flat hv) .nil), fun d hd => ?_, by rw [List.length_append]; exact Nat.succ_le_succ h4, fun b ob nb e => ?_⟩
  · rcases List.mem_append.mp hd with hd | hd
    · exact h3 d hd
    · rw [List.mem_singleton.mp hd]
      exact hx
  · rw [upd_ne nb]
    exact h5 b ob nb e
theorem HInv.kt {K : PySem.W.Frag} {H0 H : Hp} {fo : Addr} {n : Nat} {us : List V} (F : HInv K H0 fo n H) (h : H0 fo = some (.lst us)) : KeepT H0 H := by
  obtain ⟨_, _, _, _, _, _, kk⟩ := F
  exact ⟨fun b xs e => kk _ _ (ne_of e h (fun z => by cases z)) e, fun b o xs e => kk _ _ (ne_of e h (fun z => by cases z)) e⟩
/-- a list of keys and ones -/
theorem two_data {K : PySem.W.Frag} {H : Hp} {a b : V} (ha : Dp K H a keyD) (hb : Dp K H b oneD) : ∀ {us : List V}, (∀ u, u ∈ us → u = a ∨ u = b) → ∃ ds, DpAll K H us ds ∧ ds.length = us.length ∧ ∀ d, d ∈ ds → Ex hz 1 d
  | [], _ => ⟨[], .nil, rfl, fun d hd => (nomatch hd)⟩
  | u :: us, h => by
    obtain ⟨ds, h1, h2, h3⟩ := two_data ha hb fun v hv => h v (List.mem_cons_of_mem _ hv)
    rcases h u List.mem_cons_self with rfl | rfl
    · exact ⟨keyD :: ds, .cons ha h1, by rw [List.length_cons, List.length_cons, h2], fun d hd => by
        rcases List.mem_cons.mp hd with rfl | hd
        · exact ex_key 0
        · exact h3 d hd⟩
    · exact ⟨oneD :: ds, .cons hb h1, by rw [List.length_cons, List.length_cons, h2], fun d hd => by
        rcases List.mem_cons.mp hd with rfl | hd
        · exact ex_one 0
        · exact h3 d hd⟩
theorem HInv.base {K : PySem.W.Frag} {G H1 H : Hp} {fo : Addr} {n m : Nat} (A : HInv K G fo m H1) (F : HInv K H1 fo n H) : HInv K G fo n H := by
  obtain ⟨us, ds, h1, h2, h3, h4, h5⟩ := F
  obtain ⟨_, _, _, _, _, _, k5⟩ := A
  exact ⟨us, ds, h1, h2, h3, h4, fun b ob nb e => h5 b ob nb (k5 b ob nb e)⟩
theorem HInv.refl {K : PySem.W.Frag} {G H : Hp} {fo : Addr} {n : Nat} (F : HInv K G fo n H) : HInv K H fo n H := by
  obtain ⟨us, ds, h1, h2, h3, h4, h5⟩ := F
  exact ⟨us, ds, h1, h2, h3, h4, fun b ob nb e => e⟩
theorem rep_one {K : PySem.W.Frag} {H : Hp} {l : Addr} {m : Nat} {u : V} {Q : VK} (hT : H l = some (.tup [u])) (h1 : 1 ≤ m) (h2 : m ≤ 1000) (q : ∀ H' z, Same H H' → H' z = some (.tup (List.replicate m u)) → Q (.ref z) H') : rRepA K (.ref l) (.int (m : Int)) H Q := by
  refine ⟨l, (m : Int), [u], rfl, rfl, .inl (.inl hT), List.cons_ne_nil _ _, by omega, by omega, (show 1 ≤ 1000 by decide), fun e => ?_, fun e p np => ?_⟩
  · obtain rfl : m = 1 := by omega
    exact q H l (fun _ _ e => e) hT
  · refine q _ p (same_upd np) ?_
    rw [upd_same, show ((m : Int)).toNat = m by omega]
    congr 2
    clear q h1 h2 e hT
    induction m with
    | zero => rfl
    | succ m ih => rw [List.replicate_succ, List.replicate_succ, List.flatten_cons, ih]; rfl
theorem cat_new {K : PySem.W.Frag} {H : Hp} {a b : Addr} {xs ys : List V} {Q : VK} (hx : H a = some (.tup xs)) (hy : H b = some (.tup ys)) (n1 : xs ≠ []) (n2 : ys ≠ []) (hl : xs.length + ys.length ≤ 1000) (q : ∀ p, H p = none → Q (.ref p) (upd H p (.tup (xs ++ ys)))) : rCatT K (.ref a) (.ref b) H Q :=
  ⟨a, b, xs, ys, rfl, rfl, .inl (.inl hx), .inl (.inl hy), n1, small_le hl, fun e => absurd e n2, fun _ => q⟩
theorem dp_rep {K : PySem.W.Frag} {H : Hp} {u : V} {d : PyData} (h : Dp K H u d) : ∀ m : Nat, DpAll K H (List.replicate m u) (List.replicate m d)
  | 0 => .nil
  | m + 1 => .cons h (dp_rep h m)
/-- what is put behind the list for each word -/
theorem ex_rep {o t : Str} {m : Nat} {x d : PyData} (ht : t ∈ hz) (ha : (o, m + 1) ∈ aggs) (ex : Ex hz 3 x) (ed : Ex hz 1 d) : Ex hz 4 (.tuple (.str o :: .str t :: .tuple [] :: x :: List.replicate m d)) := by
  refine .agg 3 o t [] (x :: List.replicate m d) ?_ ht (by decide) (fun y hy => (nomatch hy)) fun y hy => ?_
  · rw [List.length_cons, List.length_replicate]
    exact ha
  · rcases List.mem_cons.mp hy with rfl | hy
    · exact ex
    · rw [List.eq_of_mem_replicate hy]
      exact ed.mono (by decide)
section
variable {P : Program} {w : World} {K : PySem.W.Frag} {mg : Str → Option Value} {base : Heap}
abbrev s_law_by_hand : Stmt := topS 32
abbrev N_hand : List Str := ["_law_key", "_law_one", "_law_found", "_law_test", "_law_word", "_law_many", "_law_at", "_law_parts", "_law_other", "_law_k"]
theorem sc_law_by_hand : FnScope N_hand [] (defScope s_law_by_hand) := ⟨rfl, rfl, rfl, by decide +kernel, rfl, by decide +kernel, by decide +kernel⟩
def sp_hand (K : PySem.W.Frag) : Sp := fun vs H Q _ => vs = [] ∧ ∀ H' p us ds, Same H H' → H p = none → H' p = some (.lst us) → DpAll K H' us ds → (∀ d, d ∈ ds → Ex hz 4 d) → us.length ≤ 52 → Q (.ref p) H'
theorem ok_hand {f : Addr} {fd : FuncData} {k : Nat} (F : Fun K "_law_by_hand" "_law_by_hand" s_law_by_hand f fd) (mrange : mg "range" = none) (mint : mg "int" = none) (mtuple : mg "tuple" = none) : FnOk P w K mg base CX0 (k + 1) f fd [] (sp_hand K) := by
  have nd := sc_law_by_hand.nd
  refine F.ok sc_law_by_hand (fun vs H Q E h => ?_) (fun cdv A outer s H vs Q E hr h => ?_)
  · obtain ⟨rfl, _⟩ := h
    rfl
  obtain ⟨rfl, q⟩ := h
  refine ⟨_, (pss_cons (ps_asg (pe_tup (pa_cons (pe_tup (pa_cons pe_str pa_nil)) (pa_cons (pe_tup (pa_cons pe_str (pa_cons pe_int pa_nil))) pa_nil))) (pg_tup rfl (pgs_cons (pg_name (i := 0) nd rfl (Or.inr rfl)) (pgs_cons (pg_name (i := 1) nd rfl (Or.inr rfl)) pgs_nil))))
      (pss_cons (ps_set (i := 2) nd rfl (.inl rfl) (pe_lst (pa_cons (pe_tup (pa_cons pe_str (pa_cons (pv 0) (pa_cons (pv 1) pa_nil)))) (pa_cons (pe_tup (pa_cons pe_str (pa_cons (pv 1) (pa_cons (pv 0) pa_nil)))) (pa_cons (pe_tup (pa_cons pe_str (pa_cons (pv 0) (pa_cons (pe_tup (pa_cons pe_str (pa_cons (pv 0) (pa_cons (pv 0) pa_nil)))) pa_nil)))) (pa_cons (pe_tup (pa_cons pe_str (pa_cons (pv 1) (pa_cons (pe_tup (pa_cons pe_str (pa_cons (pv 0) (pa_cons (pv 1) pa_nil)))) pa_nil)))) pa_nil))))))
      (pss_cons (ps_set (i := 3) nd rfl (.inl rfl) (pe_tup (pa_cons pe_str (pa_cons pe_str (pa_cons (pv 0) (pa_cons pe_str pa_nil))))))
      (pss_cons (ps_for PassesOwn.never rfl (pi_tup (pe_tup (pa_cons (pe_tup (pa_cons pe_str (pa_cons pe_int pa_nil))) (pa_cons (pe_tup (pa_cons pe_str (pa_cons pe_int pa_nil))) (pa_cons (pe_tup (pa_cons pe_str (pa_cons pe_int pa_nil))) (pa_cons (pe_tup (pa_cons pe_str (pa_cons pe_int pa_nil))) pa_nil)))))) (pg_tup rfl (pgs_cons (pg_name (i := 4) nd rfl (Or.inl rfl)) (pgs_cons (pg_name (i := 5) nd rfl (Or.inl rfl)) pgs_nil)))
      (pss_cons (ps_for PassesOwn.never rfl (pi_range1 rfl mrange (pa_cons (pe_op op_add (pv 5) pe_int) pa_nil)) (pg_name (i := 6) nd rfl (Or.inr rfl))
        (pss_cons (ps_setLc (i := 7) (own := [("_law_k", 9)]) (te := tOp (rIxT K) (tTup (tCons (tVar 1) (tCons (tVar 0) tNil))) (tCB (fun xs H Q => (∃ i, xs = [.int i] ∧ Q (.int i) H) ∨ ∃ k, xs = [.bl k] ∧ Q (.int (if k then 1 else 0)) H) (tCons (tOp rEq (tVar 9) (tVar 6)) tNil))) rfl nd rfl rfl (sw_true rfl rfl rfl (by decide +kernel)) (pi_range1 rfl mrange (pa_cons (pe_op op_add (pv 5) pe_int) pa_nil)) (blkOk_by (N := N_hand) (sc := defScope s_law_by_hand) (by decide +kernel)) (fun _ _ _ _ _ => (pg_name (i := 9) nd rfl (Or.inl rfl))) (fun _ _ _ _ _ => pts_nil) (fun _ _ _ _ _ => (pe_ix ix_tup (pe_tup (pa_cons (pv 1) (pa_cons (pv 0) pa_nil))) (pe_callTy call_int1 (by rfl) mint boot_int (pa_cons (pe_cmpR op_eq (pv 9) (pv 6) (nomark _)) pa_nil)) (fun _ _ => rfl))))
          (pss_one (ps_expr (pe_bm PySem.F.plainAttrs_list PySem.F.slot_list_append PySem.F.type_list_append mt_append (pv 2) (pa_cons (pe_op op_catT (pe_tup (pa_cons (pv 4) (pa_cons pe_str (pa_cons (pe_tup (pa_cons (pe_ix ix_list (pv 7) pe_int (fun _ _ => rfl)) pa_nil)) (pa_cons (pe_ix ix_list (pv 7) pe_int (fun _ _ => rfl)) pa_nil))))) (pe_callTy call_tuple_of (by rfl) mtuple boot_tuple (pa_cons (pe_slice sl_list (pv 7) (po_some pe_int) po_none) pa_nil))) pa_nil))))))
        (pss_cons (ps_expr (pe_bm PySem.F.plainAttrs_list PySem.F.slot_list_append PySem.F.type_list_append mt_append (pv 2) (pa_cons (pe_op op_catT (pe_tup (pa_cons (pv 4) (pa_cons pe_str (pa_cons (pe_tup pa_nil) (pa_cons (pv 3) pa_nil))))) (pe_op op_repA (pe_tup (pa_cons (pv 1) pa_nil)) (pv 5))) pa_nil)))
        (pss_cons (ps_expr (pe_bm PySem.F.plainAttrs_list PySem.F.slot_list_append PySem.F.type_list_append mt_append (pv 2) (pa_cons (pe_op op_catT (pe_tup (pa_cons (pv 4) (pa_cons pe_str (pa_cons (pe_tup pa_nil) (pa_cons (pv 3) pa_nil))))) (pe_op op_repA (pe_tup (pa_cons (pv 0) pa_nil)) (pv 5))) pa_nil)))
        (pss_one (ps_for PassesOwn.never rfl (pi_list (pe_lst (pa_cons (pe_tup (pa_cons pe_str (pa_cons pe_str (pa_cons (pv 1) (pa_cons pe_str pa_nil))))) (pa_cons (pe_tup (pa_cons pe_str (pa_cons pe_str (pa_cons (pv 0) (pa_cons pe_str pa_nil))))) (pa_cons (pe_tup (pa_cons pe_str (pa_cons pe_str (pa_cons (pv 0) (pa_cons pe_str pa_nil))))) (pa_cons (pe_tup (pa_cons pe_str (pa_cons (pv 3) (pa_cons (pv 0) pa_nil)))) pa_nil)))))) (pg_name (i := 8) nd rfl (Or.inl rfl))
        (pss_one (ps_expr (pe_bm PySem.F.plainAttrs_list PySem.F.slot_list_append PySem.F.type_list_append mt_append (pv 2) (pa_cons (pe_op op_catT (pe_tup (pa_cons (pv 4) (pa_cons pe_str (pa_cons (pe_tup pa_nil) (pa_cons (pv 8) pa_nil))))) (pe_op op_repA (pe_tup (pa_cons (pv 1) pa_nil)) (pv 5))) pa_nil))))))))))
      (pss_one (ps_ret (pv 2))))))), ?_⟩
  have h1000 : ∀ n, n ≤ 10 → n ≤ sizeLine := fun n h => small_le (by omega)
  refine ⟨h1000 1 (by decide), fun pk npk => ⟨h1000 2 (by decide), fun p1 np1 => ⟨h1000 2 (by decide), fun pt npt => ?_⟩⟩⟩
  have bk := new_tup (K := K) (.cons (.str "key") .nil) rfl npk
  have b1 := new_tup (K := K) (.cons (.str "int") (.cons (.int 1) .nil)) rfl np1
  have sk := same_upd (o := .tup [.str "key"]) npk
  have s1 := same_upd (o := .tup [.str "int", .int 1]) np1
  have st := same_upd (o := .tup [.ref pk, .ref p1]) npt
  have ht : upd (upd (upd H pk (.tup [.str "key"])) p1 (.tup [.str "int", .int 1])) pt (.tup [.ref pk, .ref p1]) pt = some (.tup [.ref pk, .ref p1]) := upd_same
  have dk := dp_keep (KeepT.of (s1.trans st)) _ _ rfl bk
  have d1 := dp_keep (KeepT.of st) _ _ rfl b1
  have sH := sk.trans (s1.trans st)
  clear bk b1 sk s1 st npt np1 npk
  revert dk d1 sH ht
  generalize upd (upd (upd H pk (.tup [.str "key"])) p1 (.tup [.str "int", .int 1])) pt (.tup [.ref pk, .ref p1]) = H1
  intro ht dk d1 sH
  refine ⟨pt, _, rfl, .inl (.inl ht), rfl, _, _, rfl, _, _, rfl, rfl, ?_⟩
  refine ⟨.ref pk, rfl, .ref p1, rfl, h1000 3 (by decide), fun q1 n_q1 => ?_⟩
  have b_q1 := new_tup (K := K) (.cons (.str "at") (.cons dk (.cons d1 .nil))) rfl n_q1
  have s_q1 := same_upd (o := .tup [.str "at", .ref pk, .ref p1]) n_q1
  revert b_q1 s_q1
  generalize upd H1 q1 (.tup [.str "at", .ref pk, .ref p1]) = H2
  intro b_q1 s_q1
  replace dk := dp_keep (KeepT.of s_q1) _ _ rfl dk
  replace d1 := dp_keep (KeepT.of s_q1) _ _ rfl d1
  replace sH := sH.trans s_q1
  refine ⟨.ref p1, rfl, .ref pk, rfl, h1000 3 (by decide), fun q2 n_q2 => ?_⟩
  have b_q2 := new_tup (K := K) (.cons (.str "at") (.cons d1 (.cons dk .nil))) rfl n_q2
  have s_q2 := same_upd (o := .tup [.str "at", .ref p1, .ref pk]) n_q2
  revert b_q2 s_q2
  generalize upd H2 q2 (.tup [.str "at", .ref p1, .ref pk]) = H3
  intro b_q2 s_q2
  replace dk := dp_keep (KeepT.of s_q2) _ _ rfl dk
  replace d1 := dp_keep (KeepT.of s_q2) _ _ rfl d1
  replace b_q1 := dp_keep (KeepT.of s_q2) _ _ rfl b_q1
  replace sH := sH.trans s_q2
  refine ⟨.ref pk, rfl, .ref pk, rfl, .ref pk, rfl, h1000 3 (by decide), fun q3 n_q3 => ?_⟩
  have b_q3 := new_tup (K := K) (.cons (.str "at") (.cons dk (.cons dk .nil))) rfl n_q3
  have s_q3 := same_upd (o := .tup [.str "at", .ref pk, .ref pk]) n_q3
  revert b_q3 s_q3
  generalize upd H3 q3 (.tup [.str "at", .ref pk, .ref pk]) = H4
  intro b_q3 s_q3
  replace dk := dp_keep (KeepT.of s_q3) _ _ rfl dk
  replace d1 := dp_keep (KeepT.of s_q3) _ _ rfl d1
  replace b_q1 := dp_keep (KeepT.of s_q3) _ _ rfl b_q1
  replace b_q2 := dp_keep (KeepT.of s_q3) _ _ rfl b_q2
  replace sH := sH.trans s_q3
  refine ⟨h1000 3 (by decide), fun q5 n_q5 => ?_⟩
  have b_q5 := new_tup (K := K) (.cons (.str "at") (.cons dk (.cons b_q3 .nil))) rfl n_q5
  have s_q5 := same_upd (o := .tup [.str "at", .ref pk, .ref q3]) n_q5
  revert b_q5 s_q5
  generalize upd H4 q5 (.tup [.str "at", .ref pk, .ref q3]) = H5
  intro b_q5 s_q5
  replace dk := dp_keep (KeepT.of s_q5) _ _ rfl dk
  replace d1 := dp_keep (KeepT.of s_q5) _ _ rfl d1
  replace b_q1 := dp_keep (KeepT.of s_q5) _ _ rfl b_q1
  replace b_q2 := dp_keep (KeepT.of s_q5) _ _ rfl b_q2
  replace b_q3 := dp_keep (KeepT.of s_q5) _ _ rfl b_q3
  replace sH := sH.trans s_q5
  refine ⟨.ref p1, rfl, .ref pk, rfl, .ref p1, rfl, h1000 3 (by decide), fun q4 n_q4 => ?_⟩
  have b_q4 := new_tup (K := K) (.cons (.str "at") (.cons dk (.cons d1 .nil))) rfl n_q4
  have s_q4 := same_upd (o := .tup [.str "at", .ref pk, .ref p1]) n_q4
  revert b_q4 s_q4
  generalize upd H5 q4 (.tup [.str "at", .ref pk, .ref p1]) = H6
  intro b_q4 s_q4
  replace dk := dp_keep (KeepT.of s_q4) _ _ rfl dk
  replace d1 := dp_keep (KeepT.of s_q4) _ _ rfl d1
  replace b_q1 := dp_keep (KeepT.of s_q4) _ _ rfl b_q1
  replace b_q2 := dp_keep (KeepT.of s_q4) _ _ rfl b_q2
  replace b_q3 := dp_keep (KeepT.of s_q4) _ _ rfl b_q3
  replace b_q5 := dp_keep (KeepT.of s_q4) _ _ rfl b_q5
  replace sH := sH.trans s_q4
  refine ⟨h1000 3 (by decide), fun q6 n_q6 => ?_⟩
  have b_q6 := new_tup (K := K) (.cons (.str "at") (.cons d1 (.cons b_q4 .nil))) rfl n_q6
  have s_q6 := same_upd (o := .tup [.str "at", .ref p1, .ref q4]) n_q6
  revert b_q6 s_q6
  generalize upd H6 q6 (.tup [.str "at", .ref p1, .ref q4]) = H7
  intro b_q6 s_q6
  replace dk := dp_keep (KeepT.of s_q6) _ _ rfl dk
  replace d1 := dp_keep (KeepT.of s_q6) _ _ rfl d1
  replace b_q1 := dp_keep (KeepT.of s_q6) _ _ rfl b_q1
  replace b_q2 := dp_keep (KeepT.of s_q6) _ _ rfl b_q2
  replace b_q3 := dp_keep (KeepT.of s_q6) _ _ rfl b_q3
  replace b_q5 := dp_keep (KeepT.of s_q6) _ _ rfl b_q5
  replace b_q4 := dp_keep (KeepT.of s_q6) _ _ rfl b_q4
  replace sH := sH.trans s_q6
  refine ⟨h1000 4 (by decide), fun fo nfo => ?_⟩
  have sl := same_upd (o := .lst [.ref q1, .ref q2, .ref q5, .ref q6]) nfo
  have hfo : upd H7 fo (.lst [.ref q1, .ref q2, .ref q5, .ref q6]) fo = some (.lst [.ref q1, .ref q2, .ref q5, .ref q6]) := upd_same
  have nf0 : H fo = none := sH.free nfo
  revert sl hfo
  generalize upd H7 fo (.lst [.ref q1, .ref q2, .ref q5, .ref q6]) = G0
  intro sl hfo
  replace dk := dp_keep (KeepT.of sl) _ _ rfl dk
  replace d1 := dp_keep (KeepT.of sl) _ _ rfl d1
  replace b_q1 := dp_keep (KeepT.of sl) _ _ rfl b_q1
  replace b_q2 := dp_keep (KeepT.of sl) _ _ rfl b_q2
  replace b_q3 := dp_keep (KeepT.of sl) _ _ rfl b_q3
  replace b_q5 := dp_keep (KeepT.of sl) _ _ rfl b_q5
  replace b_q4 := dp_keep (KeepT.of sl) _ _ rfl b_q4
  replace b_q6 := dp_keep (KeepT.of sl) _ _ rfl b_q6
  replace sH := sH.trans sl
  have eat : ∀ (n : Nat) (x y : PyData), Ex hz n x → Ex hz n y → Ex hz (n + 1) (.tuple [.str "at", x, y]) := fun n x y => .op n "at" x y (by decide)
  have F0 : HInv K G0 fo 4 G0 := by
    refine ⟨_, _, hfo, .cons b_q1 (.cons b_q2 (.cons b_q5 (.cons b_q6 .nil))), fun d hd => ?_, Nat.le_refl _, fun _ _ _ e => e⟩
    simp only [List.mem_cons, List.not_mem_nil, or_false] at hd
    rcases hd with rfl | rfl | rfl | rfl
    · exact (eat 1 _ _ (ex_key 0) (ex_one 0)).mono (by decide)
    · exact (eat 1 _ _ (ex_one 0) (ex_key 0)).mono (by decide)
    · exact (eat 2 _ _ (ex_key 1) (eat 1 _ _ (ex_key 0) (ex_key 0))).mono (by decide)
    · exact (eat 2 _ _ (ex_one 1) (eat 1 _ _ (ex_key 0) (ex_one 0))).mono (by decide)
  refine ⟨.ref pk, rfl, h1000 4 (by decide), fun pe npe => ?_⟩
  have be := new_tup (K := K) (.cons (.str "cell") (.cons (.str "a") (.cons dk (.cons (.str "in") .nil)))) rfl npe
  have se := same_upd (o := .tup [.str "cell", .str "a", .ref pk, .str "in"]) npe
  replace dk := dp_keep (KeepT.of se) _ _ rfl dk
  replace d1 := dp_keep (KeepT.of se) _ _ rfl d1
  replace F0 := F0.same se
  replace sH := sH.trans se
  have s0e := se
  clear npe nfo
  revert be se dk d1 F0 sH s0e
  generalize upd G0 pe (.tup [.str "cell", .str "a", .ref pk, .str "in"]) = G1
  intro be se dk d1 F0 sH s0e
  refine ⟨h1000 2 (by decide), fun w1 nw1 => ⟨h1000 2 (by decide), fun w2 nw2 => ⟨h1000 2 (by decide), fun w3 nw3 => ⟨h1000 2 (by decide), fun w4 nw4 => ⟨h1000 4 (by decide), fun wt nwt => ?_⟩⟩⟩⟩⟩
  have t1 := same_upd (o := .tup [.str "count", .int 1]) nw1
  have t2 := same_upd (o := .tup [.str "sum", .int 2]) nw2
  have t3 := same_upd (o := .tup [.str "most", .int 3]) nw3
  have t4 := same_upd (o := .tup [.str "first", .int 2]) nw4
  have t5 := same_upd (o := .tup [.ref w1, .ref w2, .ref w3, .ref w4]) nwt
  have t45 := t4.trans t5
  have t35 := t3.trans t45
  have t25 := t2.trans t35
  have t15 := t1.trans t25
  have g1 := t25 _ _ (show upd G1 w1 (.tup [.str "count", .int 1]) w1 = some (.tup [.str "count", .int 1]) from upd_same)
  have g2 := t35 _ _ (show upd (upd G1 w1 (.tup [.str "count", .int 1])) w2 (.tup [.str "sum", .int 2]) w2 = some (.tup [.str "sum", .int 2]) from upd_same)
  have g3 := t45 _ _ (show upd (upd (upd G1 w1 (.tup [.str "count", .int 1])) w2 (.tup [.str "sum", .int 2])) w3 (.tup [.str "most", .int 3]) w3 = some (.tup [.str "most", .int 3]) from upd_same)
  have g4 := t5 _ _ (show upd (upd (upd (upd G1 w1 (.tup [.str "count", .int 1])) w2 (.tup [.str "sum", .int 2])) w3 (.tup [.str "most", .int 3])) w4 (.tup [.str "first", .int 2]) w4 = some (.tup [.str "first", .int 2]) from upd_same)
  have g5 : upd (upd (upd (upd (upd G1 w1 (.tup [.str "count", .int 1])) w2 (.tup [.str "sum", .int 2])) w3 (.tup [.str "most", .int 3])) w4 (.tup [.str "first", .int 2])) wt (.tup [.ref w1, .ref w2, .ref w3, .ref w4]) wt = some (.tup [.ref w1, .ref w2, .ref w3, .ref w4]) := upd_same
  clear t1 t2 t3 t4 t5 t45 t35 t25 nw1 nw2 nw3 nw4 nwt
  revert t15 g1 g2 g3 g4 g5
  generalize upd (upd (upd (upd (upd G1 w1 (.tup [.str "count", .int 1])) w2 (.tup [.str "sum", .int 2])) w3 (.tup [.str "most", .int 3])) w4 (.tup [.str "first", .int 2])) wt (.tup [.ref w1, .ref w2, .ref w3, .ref w4]) = G2
  intro t15 g1 g2 g3 g4 g5
  replace dk := dp_keep (KeepT.of t15) _ _ rfl dk
  replace d1 := dp_keep (KeepT.of t15) _ _ rfl d1
  replace be := dp_keep (KeepT.of t15) _ _ rfl be
  replace F0 := F0.same t15
  replace sH := sH.trans t15
  have F2 : HInv K G2 fo 4 G2 := by
    obtain ⟨us, ds, a1, a2, a3, a4, a5⟩ := F0
    exact ⟨us, ds, a1, a2, a3, a4, fun _ _ _ e => e⟩
  obtain ⟨us0, hus0⟩ : ∃ us0, G2 fo = some (.lst us0) := by
    obtain ⟨us, ds, a1, _⟩ := F2
    exact ⟨us, a1⟩
  have kt : ∀ {n : Nat} {H' : Hp}, HInv K G2 fo n H' → KeepT G2 H' := fun F => F.kt hus0
  refine ⟨wt, rfl, ⟨_, .inl (.inl g5)⟩, ?_⟩
  refine for_tup (xs := [.ref w1, .ref w2, .ref w3, .ref w4]) (fun i σ H' => ∃ y4 y5 y6 y7 y8, σ = [some (.ref pk), some (.ref p1), some (.ref fo), some (.ref pe), y4, y5, y6, y7, y8, none] ∧ HInv K G2 fo (4 + 12 * i) H') ?_ ?_ ?_ ?_
  · exact ⟨none, none, none, none, none, rfl, F2⟩
  · rintro i σ H' _ ⟨_, _, _, _, _, rfl, F⟩
    exact .inl (.inl ((kt F).1 _ _ g5))
  · rintro i x σ H' hx ⟨y4, y5, y6, y7, y8, rfl, F⟩
    have hi4 : i < 4 := (List.getElem?_eq_some_iff.mp hx).1
    obtain ⟨wq, o, m, rfl, gq, ha, hm1, hm3⟩ : ∃ (wq : Addr) (o : Str) (m : Nat), x = .ref wq ∧ G2 wq = some (.tup [.str o, .int (m : Int)]) ∧ (o, m + 1) ∈ aggs ∧ 1 ≤ m ∧ m ≤ 3 := by
      match i, hi4, hx with
      | 0, _, hx => cases hx; exact ⟨w1, "count", 1, rfl, g1, by decide, by decide, by decide⟩
      | 1, _, hx => cases hx; exact ⟨w2, "sum", 2, rfl, g2, by decide, by decide, by decide⟩
      | 2, _, hx => cases hx; exact ⟨w3, "most", 3, rfl, g3, by decide, by decide, by decide⟩
      | 3, _, hx => cases hx; exact ⟨w4, "first", 2, rfl, g4, by decide, by decide, by decide⟩
    refine ⟨wq, _, rfl, .inl (.inl ((kt F).1 _ _ gq)), rfl, _, _, rfl, _, _, rfl, rfl, ?_⟩
    refine ⟨.int (m : Int), rfl, (m : Int), 2, rfl, rfl, (m : Int) + 2, rfl, by omega, by omega, ?_⟩
    rw [show ((m : Int) + 2).toNat = m + 2 by omega]
    refine for_range (n := m + 2) (fun j σ H' => ∃ y6 y7, σ = [some (.ref pk), some (.ref p1), some (.ref fo), some (.ref pe), some (.str o), some (.int (m : Int)), y6, y7, y8, none] ∧ HInv K G2 fo (4 + 12 * i + j) H') ?_ ?_ ?_
    · exact ⟨y6, y7, rfl, F⟩
    · rintro j σ Ha hj ⟨y6, y7, rfl, F⟩
      refine ⟨.int (m : Int), rfl, (m : Int), 2, rfl, rfl, (m : Int) + 2, rfl, by omega, by omega, fun B nB => ?_⟩
      rw [show ((m : Int) + 2).toNat = m + 2 by omega]
      refine lc_range (n := m + 2) (fun r H' => ∃ us, H' B = some (.lst us) ∧ us.length = r ∧ (∀ u, u ∈ us → u = .ref pk ∨ u = .ref p1) ∧ ∀ b ob, b ≠ B → Ha b = some ob → H' b = some ob) ?_ ?_ ?_
      · refine ⟨[], upd_same, rfl, fun u hu => (nomatch hu), fun b ob nb e => ?_⟩
        rw [upd_ne nb]
        exact e
      · rintro r Hb hr ⟨us, hB, hl, hu, kk⟩
        refine ⟨rfl, yes_then ⟨.ref p1, rfl, .ref pk, rfl, le2, fun c nc => ⟨_, rfl, _, rfl, rfl, ?_⟩⟩⟩
        have hcB : c ≠ B := (ne_of_none hB nc).symm
        have hend : ∀ v : V, (v = .ref pk ∨ v = .ref p1) → ∃ acc, upd Hb c (.tup [.ref p1, .ref pk]) B = some (.lst acc) ∧ acc.length < sizeLine ∧ ∃ us', upd (upd Hb c (.tup [.ref p1, .ref pk])) B (.lst (acc ++ [v])) B = some (.lst us') ∧ us'.length = r + 1 ∧ (∀ u, u ∈ us' → u = .ref pk ∨ u = .ref p1) ∧ ∀ b ob, b ≠ B → Ha b = some ob → upd (upd Hb c (.tup [.ref p1, .ref pk])) B (.lst (acc ++ [v])) b = some ob := by
          intro v hv
          refine ⟨us, by rw [upd_ne hcB.symm]; exact hB, small1000 (by omega), us ++ [v], upd_same, by rw [List.length_append, hl]; rfl, fun u hu' => ?_, fun b ob nb e => ?_⟩
          · rcases List.mem_append.mp hu' with h | h
            · exact hu u h
            · rw [List.mem_singleton.mp h]
              exact hv
          · rw [upd_ne nb]
            exact same_upd nc _ _ (kk b ob nb e)
        refine .inr ⟨_, rfl, ?_⟩
        by_cases e : V.int (0 + (r : Int)) = V.int (0 + (j : Int))
        · rw [decide_eq_true e]
          exact ⟨c, _, 1, .ref pk, rfl, rfl, .inl (.inl upd_same), at1, hend _ (.inl rfl)⟩
        · rw [decide_eq_false e]
          exact ⟨c, _, 0, .ref p1, rfl, rfl, .inl (.inl upd_same), at0, hend _ (.inr rfl)⟩
      · rintro Hb ⟨us, hB, hl, hu, kk⟩
        have hBfo : fo ≠ B := by
          obtain ⟨us1, ds1, a1, _⟩ := F
          exact ne_of_none a1 nB
        have FB : HInv K G2 fo (4 + 12 * i + j) Hb := F.same fun b ob e => kk b ob (ne_of_none e nB) e
        have dkB := dp_keep (kt FB) _ _ rfl dk
        have d1B := dp_keep (kt FB) _ _ rfl d1
        obtain ⟨v0, v1, vr, rfl, hvr⟩ : ∃ v0 v1 vr, us = v0 :: v1 :: vr ∧ vr.length = m := by
          match us, hl with
          | v0 :: v1 :: vr, hl => exact ⟨v0, v1, vr, rfl, by simpa using hl⟩
        have q0 := hu v0 List.mem_cons_self
        have q1 := hu v1 (List.mem_cons_of_mem _ List.mem_cons_self)
        have qr : ∀ u, u ∈ vr → u = .ref pk ∨ u = .ref p1 := fun u h => hu u (List.mem_cons_of_mem _ (List.mem_cons_of_mem _ h))
        obtain ⟨usB, dsB, aB, _⟩ := id FB
        refine ⟨.ref fo, rfl, .inl ⟨rfl, usB, .inl (.inl aB)⟩, ?_⟩
        have hcut : cutV (v0 :: v1 :: vr) (some 2) none = vr := by
          unfold cutV
          rw [show HT.sIx (v0 :: v1 :: vr).length 0 (some 2) = 2 from by
            rw [show (some (2 : Int)) = some ((2 : Nat) : Int) from rfl, HT.sIx_nat]
            simp only [List.length_cons]
            omega, HT.sIx_none]
          simp
        refine ⟨.str o, rfl, .ref B, rfl, B, _, 0, v0, rfl, rfl, .inl (.inl hB), at0, (h1000 1 (by decide)), fun c0 nc0 => ?_⟩
        have sc0 := same_upd (o := .tup [v0]) nc0
        have hc0 : upd Hb c0 (.tup [v0]) c0 = some (.tup [v0]) := upd_same
        revert sc0 hc0
        generalize upd Hb c0 (.tup [v0]) = Hc
        intro sc0 hc0
        refine ⟨.ref B, rfl, B, _, 1, v1, rfl, rfl, .inl (.inl (sc0 _ _ hB)), at1, h1000 4 (by decide), fun c1 nc1 => ?_⟩
        have sc1 := same_upd (o := .tup [.str o, .str "a", .ref c0, v1]) nc1
        have hc1 : upd Hc c1 (.tup [.str o, .str "a", .ref c0, v1]) c1 = some (.tup [.str o, .str "a", .ref c0, v1]) := upd_same
        revert sc1 hc1
        generalize upd Hc c1 (.tup [.str o, .str "a", .ref c0, v1]) = Hd
        intro sc1 hc1
        refine ⟨.ref B, rfl, 2, rfl, B, _, rfl, .inl (.inl (sc1 _ _ (sc0 _ _ hB))), fun l2 nl2 => ?_⟩
        rw [hcut]
        refine ⟨l2, vr, rfl, .inl ⟨.inl (.inl upd_same), fun z nz => ?_⟩⟩
        have sc2 := same_upd (o := .lst vr) nl2
        have sc3 := same_upd (o := .tup vr) nz
        have sc23 := sc2.trans sc3
        have hz2 : upd (upd Hd l2 (.lst vr)) z (.tup vr) z = some (.tup vr) := upd_same
        revert sc23 hz2
        clear sc2 sc3 nz nl2
        generalize upd (upd Hd l2 (.lst vr)) z (.tup vr) = He
        intro sc23 hz2
        refine cat_new (sc23 _ _ hc1) hz2 (List.cons_ne_nil _ _) (fun e => by rw [e] at hvr; have : 0 = m := hvr; omega) (by rw [hvr]; show 4 + m ≤ 1000; omega) fun pn npn => ?_
        have sc4 := same_upd (o := .tup ([.str o, .str "a", .ref c0, v1] ++ vr)) npn
        have hpn : upd He pn (.tup ([.str o, .str "a", .ref c0, v1] ++ vr)) pn = some (.tup ([.str o, .str "a", .ref c0, v1] ++ vr)) := upd_same
        revert sc4 hpn
        generalize upd He pn (.tup ([.str o, .str "a", .ref c0, v1] ++ vr)) = Hf
        intro sc4 hpn
        have sbf := sc0.trans (sc1.trans (sc23.trans sc4))
        have Ff := FB.same sbf
        have dkf := dp_keep (KeepT.of sbf) _ _ rfl dkB
        have d1f := dp_keep (KeepT.of sbf) _ _ rfl d1B
        obtain ⟨e0, x0, x1, x2⟩ := two_data dkf d1f (us := [v0]) (fun u h => by rw [List.mem_singleton.mp h]; exact q0)
        obtain ⟨e1, y1', y2', y3'⟩ := two_data dkf d1f (us := v1 :: vr) (fun u h => by
          rcases List.mem_cons.mp h with rfl | h
          · exact q1
          · exact qr u h)
        have hc0f := (sc1.trans (sc23.trans sc4)) _ _ hc0
        have dnew : Dp K Hf (.ref pn) (.tuple (.str o :: .str "a" :: .tuple e0 :: e1)) := .tup (.inl (.inl hpn)) (.cons (.str _) (.cons (.str _) (.cons (.tup (.inl (.inl hc0f)) x0) y1')))
        have enew : Ex hz 4 (.tuple (.str o :: .str "a" :: .tuple e0 :: e1)) := by
          refine .agg 3 o "a" e0 e1 ?_ (by decide) (by rw [x1]; show 1 ≤ 2; decide) (fun y hy => (x2 y hy).mono (by decide)) fun y hy => (y3' y hy).mono (by decide)
          rw [y2', List.length_cons, hvr]
          exact ha
        obtain ⟨usf, af, lf, Fg⟩ := Ff.app dnew enew
        refine ⟨fo, usf, .ref pn, rfl, rfl, af, small1000 (by omega), ?_⟩
        exact ⟨_, _, rfl, Fg⟩
    · rintro σ Ha ⟨y6, y7, rfl, F⟩
      obtain ⟨usA, dsA, abA, _⟩ := id F
      refine ⟨.ref fo, rfl, .inl ⟨rfl, usA, .inl (.inl abA)⟩, ?_⟩
      refine ⟨.str o, rfl, Nat.zero_le _, fun zA nzA => ⟨.ref pe, rfl, h1000 4 (by decide), fun cA ncA => ⟨.ref p1, rfl, h1000 1 (by decide), fun uA nuA => ⟨.int (m : Int), rfl, ?_⟩⟩⟩⟩
      have xaA := same_upd (o := .tup []) nzA
      have xbA := same_upd (o := .tup [.str o, .str "a", .ref zA, .ref pe]) ncA
      have xcA := same_upd (o := .tup [.ref p1]) nuA
      have hzA := xcA _ _ (xbA _ _ (show upd Ha zA (.tup []) zA = some (.tup []) from upd_same))
      have hcA := xcA _ _ (show upd (upd Ha zA (.tup [])) cA (.tup [.str o, .str "a", .ref zA, .ref pe]) cA = some (.tup [.str o, .str "a", .ref zA, .ref pe]) from upd_same)
      have huA : upd (upd (upd Ha zA (.tup [])) cA (.tup [.str o, .str "a", .ref zA, .ref pe])) uA (.tup [.ref p1]) uA = some (.tup [.ref p1]) := upd_same
      have xdA := xaA.trans (xbA.trans xcA)
      clear xaA xbA xcA nzA ncA nuA
      revert hzA hcA huA xdA
      generalize upd (upd (upd Ha zA (.tup [])) cA (.tup [.str o, .str "a", .ref zA, .ref pe])) uA (.tup [.ref p1]) = KA
      intro hzA hcA huA xdA
      refine rep_one huA hm1 (by omega) fun LA rA yA hrA => ?_
      refine cat_new (yA _ _ hcA) hrA (List.cons_ne_nil _ _) (fun e => by have := congrArg List.length e; rw [List.length_replicate] at this; have h0 : m = 0 := this; omega) (by rw [List.length_replicate]; show 4 + m ≤ 1000; omega) fun pA npA => ?_
      have spA := same_upd (o := .tup ([.str o, .str "a", .ref zA, .ref pe] ++ List.replicate m (.ref p1))) npA
      have hpA : upd LA pA (.tup ([.str o, .str "a", .ref zA, .ref pe] ++ List.replicate m (.ref p1))) pA = some (.tup ([.str o, .str "a", .ref zA, .ref pe] ++ List.replicate m (.ref p1))) := upd_same
      revert spA hpA
      generalize upd LA pA (.tup ([.str o, .str "a", .ref zA, .ref pe] ++ List.replicate m (.ref p1))) = MA
      intro spA hpA
      have stA := xdA.trans (yA.trans spA)
      have FA := F.same stA
      have duA := dp_keep (kt FA) _ _ rfl d1
      have deA : Dp K MA (.ref pe) (.tuple [.str "cell", .str "a", keyD, .str "in"]) := dp_keep (kt FA) _ _ rfl be
      have dnA : Dp K MA (.ref pA) (.tuple (.str o :: .str "a" :: .tuple [] :: (.tuple [.str "cell", .str "a", keyD, .str "in"]) :: List.replicate m oneD)) := .tup (.inl (.inl hpA)) (.cons (.str _) (.cons (.str _) (.cons (.tup (.inl (.inl ((yA.trans spA) _ _ hzA))) .nil) (.cons deA (dp_rep duA m)))))
      obtain ⟨vsA, afA, lfA, GA⟩ := FA.app dnA (ex_rep (by decide) ha (.cell 2 "a" "in" _ (by decide) (by decide) (ex_key 1)) (ex_one 0))
      refine ⟨fo, vsA, .ref pA, rfl, rfl, afA, small1000 (by omega), ?_⟩
      revert GA
      generalize upd MA fo (.lst (vsA ++ [.ref pA])) = Hb
      intro GA
      obtain ⟨usB, dsB, abB, _⟩ := id GA
      refine ⟨.ref fo, rfl, .inl ⟨rfl, usB, .inl (.inl abB)⟩, ?_⟩
      refine ⟨.str o, rfl, Nat.zero_le _, fun zB nzB => ⟨.ref pe, rfl, h1000 4 (by decide), fun cB ncB => ⟨.ref pk, rfl, h1000 1 (by decide), fun uB nuB => ⟨.int (m : Int), rfl, ?_⟩⟩⟩⟩
      have xaB := same_upd (o := .tup []) nzB
      have xbB := same_upd (o := .tup [.str o, .str "b", .ref zB, .ref pe]) ncB
      have xcB := same_upd (o := .tup [.ref pk]) nuB
      have hzB := xcB _ _ (xbB _ _ (show upd Hb zB (.tup []) zB = some (.tup []) from upd_same))
      have hcB := xcB _ _ (show upd (upd Hb zB (.tup [])) cB (.tup [.str o, .str "b", .ref zB, .ref pe]) cB = some (.tup [.str o, .str "b", .ref zB, .ref pe]) from upd_same)
      have huB : upd (upd (upd Hb zB (.tup [])) cB (.tup [.str o, .str "b", .ref zB, .ref pe])) uB (.tup [.ref pk]) uB = some (.tup [.ref pk]) := upd_same
      have xdB := xaB.trans (xbB.trans xcB)
      clear xaB xbB xcB nzB ncB nuB
      revert hzB hcB huB xdB
      generalize upd (upd (upd Hb zB (.tup [])) cB (.tup [.str o, .str "b", .ref zB, .ref pe])) uB (.tup [.ref pk]) = KB
      intro hzB hcB huB xdB
      refine rep_one huB hm1 (by omega) fun LB rB yB hrB => ?_
      refine cat_new (yB _ _ hcB) hrB (List.cons_ne_nil _ _) (fun e => by have := congrArg List.length e; rw [List.length_replicate] at this; have h0 : m = 0 := this; omega) (by rw [List.length_replicate]; show 4 + m ≤ 1000; omega) fun pB npB => ?_
      have spB := same_upd (o := .tup ([.str o, .str "b", .ref zB, .ref pe] ++ List.replicate m (.ref pk))) npB
      have hpB : upd LB pB (.tup ([.str o, .str "b", .ref zB, .ref pe] ++ List.replicate m (.ref pk))) pB = some (.tup ([.str o, .str "b", .ref zB, .ref pe] ++ List.replicate m (.ref pk))) := upd_same
      revert spB hpB
      generalize upd LB pB (.tup ([.str o, .str "b", .ref zB, .ref pe] ++ List.replicate m (.ref pk))) = MB
      intro spB hpB
      have stB := xdB.trans (yB.trans spB)
      have FB := GA.same stB
      have duB := dp_keep (kt FB) _ _ rfl dk
      have deB : Dp K MB (.ref pe) (.tuple [.str "cell", .str "a", keyD, .str "in"]) := dp_keep (kt FB) _ _ rfl be
      have dnB : Dp K MB (.ref pB) (.tuple (.str o :: .str "b" :: .tuple [] :: (.tuple [.str "cell", .str "a", keyD, .str "in"]) :: List.replicate m keyD)) := .tup (.inl (.inl hpB)) (.cons (.str _) (.cons (.str _) (.cons (.tup (.inl (.inl ((yB.trans spB) _ _ hzB))) .nil) (.cons deB (dp_rep duB m)))))
      obtain ⟨vsB, afB, lfB, GB⟩ := FB.app dnB (ex_rep (by decide) ha (.cell 2 "a" "in" _ (by decide) (by decide) (ex_key 1)) (ex_key 0))
      refine ⟨fo, vsB, .ref pB, rfl, rfl, afB, small1000 (by omega), ?_⟩
      revert GB
      generalize upd MB fo (.lst (vsB ++ [.ref pB])) = Hc
      intro GB
      clear FA duA deA dnA afA lfA stA FB duB deB dnB afB lfB stB spA hpA spB hpB yA hrA yB hrB hzA hcA huA xdA hzB hcB huB xdB
      refine ⟨.ref p1, rfl, h1000 4 (by decide), fun a1 m1 => ⟨.ref pk, rfl, h1000 4 (by decide), fun a2 m2 => ⟨.ref pk, rfl, h1000 4 (by decide), fun a3 m3 => ⟨.ref pe, rfl, .ref pk, rfl, h1000 3 (by decide), fun a4 m4 => ⟨h1000 4 (by decide), fun al ml => ?_⟩⟩⟩⟩⟩
      have t1 := same_upd (o := .tup [.str "cell", .str "a", .ref p1, .str "in"]) m1
      have t2 := same_upd (o := .tup [.str "cell", .str "a", .ref pk, .str "b"]) m2
      have t3 := same_upd (o := .tup [.str "cell", .str "b", .ref pk, .str "in"]) m3
      have t4 := same_upd (o := .tup [.str "+", .ref pe, .ref pk]) m4
      have t5 := same_upd (o := .lst [.ref a1, .ref a2, .ref a3, .ref a4]) ml
      have t45 := t4.trans t5
      have t35 := t3.trans t45
      have t25 := t2.trans t35
      have t15' := t1.trans t25
      have dkc := dp_keep (kt GB) _ _ rfl dk
      have d1c := dp_keep (kt GB) _ _ rfl d1
      have bec := dp_keep (kt GB) _ _ rfl be
      have h1 := t25 _ _ (show upd Hc a1 (.tup [.str "cell", .str "a", .ref p1, .str "in"]) a1 = _ from upd_same)
      have h2 := t35 _ _ (show upd (upd Hc a1 (.tup [.str "cell", .str "a", .ref p1, .str "in"])) a2 (.tup [.str "cell", .str "a", .ref pk, .str "b"]) a2 = _ from upd_same)
      have h3 := t45 _ _ (show upd (upd (upd Hc a1 (.tup [.str "cell", .str "a", .ref p1, .str "in"])) a2 (.tup [.str "cell", .str "a", .ref pk, .str "b"])) a3 (.tup [.str "cell", .str "b", .ref pk, .str "in"]) a3 = _ from upd_same)
      have h4 := t5 _ _ (show upd (upd (upd (upd Hc a1 (.tup [.str "cell", .str "a", .ref p1, .str "in"])) a2 (.tup [.str "cell", .str "a", .ref pk, .str "b"])) a3 (.tup [.str "cell", .str "b", .ref pk, .str "in"])) a4 (.tup [.str "+", .ref pe, .ref pk]) a4 = _ from upd_same)
      have h5 : upd (upd (upd (upd (upd Hc a1 (.tup [.str "cell", .str "a", .ref p1, .str "in"])) a2 (.tup [.str "cell", .str "a", .ref pk, .str "b"])) a3 (.tup [.str "cell", .str "b", .ref pk, .str "in"])) a4 (.tup [.str "+", .ref pe, .ref pk])) al (.lst [.ref a1, .ref a2, .ref a3, .ref a4]) al = some (.lst [.ref a1, .ref a2, .ref a3, .ref a4]) := upd_same
      have nfal : al ≠ fo := by
        obtain ⟨usx, dsx, ax, _⟩ := GB
        exact (ne_of_none ((t1.trans (t2.trans (t3.trans t4))) _ _ ax) ml).symm
      clear t1 t2 t3 t4 t5 t45 t35 t25 m1 m2 m3 m4 ml
      revert t15' h1 h2 h3 h4 h5
      generalize upd (upd (upd (upd (upd Hc a1 (.tup [.str "cell", .str "a", .ref p1, .str "in"])) a2 (.tup [.str "cell", .str "a", .ref pk, .str "b"])) a3 (.tup [.str "cell", .str "b", .ref pk, .str "in"])) a4 (.tup [.str "+", .ref pe, .ref pk])) al (.lst [.ref a1, .ref a2, .ref a3, .ref a4]) = Gx
      intro t15' h1 h2 h3 h4 h5
      have Fx := GB.same t15'
      have dkx := dp_keep (KeepT.of t15') _ _ rfl dkc
      have d1x := dp_keep (KeepT.of t15') _ _ rfl d1c
      have bex := dp_keep (KeepT.of t15') _ _ rfl bec
      obtain ⟨usx, dsx, ax, _⟩ := id Fx
      have ktx : ∀ {n : Nat} {H' : Hp}, HInv K Gx fo n H' → KeepT Gx H' := fun F => F.kt ax
      refine ⟨al, rfl, ⟨_, .inl (.inl h5)⟩, ?_⟩
      refine for_list (xs := [.ref a1, .ref a2, .ref a3, .ref a4]) (fun r σ H' => ∃ y8, σ = [some (.ref pk), some (.ref p1), some (.ref fo), some (.ref pe), some (.str o), some (.int (m : Int)), y6, y7, y8, none] ∧ HInv K Gx fo (4 + 12 * i + (m + 2) + 1 + 1 + r) H') ?_ ?_ ?_ ?_
      · exact ⟨_, rfl, Fx.refl⟩
      · rintro r σ H' _ ⟨y8, rfl, F⟩
        obtain ⟨_, _, _, _, _, _, kk⟩ := F
        exact .inl (.inl (kk _ _ nfal h5))
      · rintro r x σ H' hx ⟨y8, rfl, F⟩
        have hr4 : r < 4 := (List.getElem?_eq_some_iff.mp hx).1
        obtain ⟨ax', dx, rfl, hdx, edx⟩ : ∃ (a : Addr) (dx : PyData), x = .ref a ∧ Dp K Gx (.ref a) dx ∧ Ex hz 3 dx := by
          match r, hr4, hx with
          | 0, _, hx =>
            cases hx
            exact ⟨a1, .tuple [.str "cell", .str "a", oneD, .str "in"], rfl, .tup (.inl (.inl h1)) (.cons (.str _) (.cons (.str _) (.cons d1x (.cons (.str _) .nil)))), .cell 2 "a" "in" _ (by decide) (by decide) (ex_one 1)⟩
          | 1, _, hx =>
            cases hx
            exact ⟨a2, .tuple [.str "cell", .str "a", keyD, .str "b"], rfl, .tup (.inl (.inl h2)) (.cons (.str _) (.cons (.str _) (.cons dkx (.cons (.str _) .nil)))), .cell 2 "a" "b" _ (by decide) (by decide) (ex_key 1)⟩
          | 2, _, hx =>
            cases hx
            exact ⟨a3, .tuple [.str "cell", .str "b", keyD, .str "in"], rfl, .tup (.inl (.inl h3)) (.cons (.str _) (.cons (.str _) (.cons dkx (.cons (.str _) .nil)))), .cell 2 "b" "in" _ (by decide) (by decide) (ex_key 1)⟩
          | 3, _, hx =>
            cases hx
            exact ⟨a4, .tuple [.str "+", .tuple [.str "cell", .str "a", keyD, .str "in"], keyD], rfl, .tup (.inl (.inl h4)) (.cons (.str _) (.cons bex (.cons dkx .nil))), .op 2 "+" _ _ (by decide) (.cell 1 "a" "in" _ (by decide) (by decide) (ex_key 0)) (ex_key 1)⟩
        obtain ⟨usC, dsC, abC, _⟩ := id F
        refine ⟨.ref fo, rfl, .inl ⟨rfl, usC, .inl (.inl abC)⟩, ?_⟩
        refine ⟨.str o, rfl, Nat.zero_le _, fun zC nzC => ⟨.ref ax', rfl, h1000 4 (by decide), fun cC ncC => ⟨.ref p1, rfl, h1000 1 (by decide), fun uC nuC => ⟨.int (m : Int), rfl, ?_⟩⟩⟩⟩
        have xaC := same_upd (o := .tup []) nzC
        have xbC := same_upd (o := .tup [.str o, .str "a", .ref zC, .ref ax']) ncC
        have xcC := same_upd (o := .tup [.ref p1]) nuC
        have hzC := xcC _ _ (xbC _ _ (show upd H' zC (.tup []) zC = some (.tup []) from upd_same))
        have hcC := xcC _ _ (show upd (upd H' zC (.tup [])) cC (.tup [.str o, .str "a", .ref zC, .ref ax']) cC = some (.tup [.str o, .str "a", .ref zC, .ref ax']) from upd_same)
        have huC : upd (upd (upd H' zC (.tup [])) cC (.tup [.str o, .str "a", .ref zC, .ref ax'])) uC (.tup [.ref p1]) uC = some (.tup [.ref p1]) := upd_same
        have xdC := xaC.trans (xbC.trans xcC)
        clear xaC xbC xcC nzC ncC nuC
        revert hzC hcC huC xdC
        generalize upd (upd (upd H' zC (.tup [])) cC (.tup [.str o, .str "a", .ref zC, .ref ax'])) uC (.tup [.ref p1]) = KC
        intro hzC hcC huC xdC
        refine rep_one huC hm1 (by omega) fun LC rC yC hrC => ?_
        refine cat_new (yC _ _ hcC) hrC (List.cons_ne_nil _ _) (fun e => by have := congrArg List.length e; rw [List.length_replicate] at this; have h0 : m = 0 := this; omega) (by rw [List.length_replicate]; show 4 + m ≤ 1000; omega) fun pC npC => ?_
        have spC := same_upd (o := .tup ([.str o, .str "a", .ref zC, .ref ax'] ++ List.replicate m (.ref p1))) npC
        have hpC : upd LC pC (.tup ([.str o, .str "a", .ref zC, .ref ax'] ++ List.replicate m (.ref p1))) pC = some (.tup ([.str o, .str "a", .ref zC, .ref ax'] ++ List.replicate m (.ref p1))) := upd_same
        revert spC hpC
        generalize upd LC pC (.tup ([.str o, .str "a", .ref zC, .ref ax'] ++ List.replicate m (.ref p1))) = MC
        intro spC hpC
        have stC := xdC.trans (yC.trans spC)
        have FC := F.same stC
        have duC := dp_keep (ktx FC) _ _ rfl d1x
        have deC : Dp K MC (.ref ax') dx := dp_keep (ktx FC) _ _ edx.flat hdx
        have dnC : Dp K MC (.ref pC) (.tuple (.str o :: .str "a" :: .tuple [] :: dx :: List.replicate m oneD)) := .tup (.inl (.inl hpC)) (.cons (.str _) (.cons (.str _) (.cons (.tup (.inl (.inl ((yC.trans spC) _ _ hzC))) .nil) (.cons deC (dp_rep duC m)))))
        obtain ⟨vsC, afC, lfC, GC⟩ := FC.app dnC (ex_rep (by decide) ha edx (ex_one 0))
        refine ⟨fo, vsC, .ref pC, rfl, rfl, afC, small1000 (by omega), ?_⟩
        exact ⟨_, rfl, GC⟩
      · rintro σ H' ⟨y8, rfl, F⟩
        exact ⟨_, _, _, _, _, rfl, (GB.same t15' |>.base F).mono (by
          have : [V.ref a1, .ref a2, .ref a3, .ref a4].length = 4 := rfl
          omega)⟩
  · rintro σ H' ⟨y4, y5, y6, y7, y8, rfl, F⟩
    obtain ⟨us, ds, r1, r2, r3, r4, kk⟩ := F
    refine ⟨.ref fo, rfl, q H' fo us ds (fun b ob e => ?_) nf0 r1 r2 r3 (Nat.le_trans r4 (show 4 + 12 * 4 ≤ 52 by decide))⟩
    exact kk _ _ (ne_of_none e nf0) (sH _ _ e)
end
end K6

namespace K6
open PySem PySem.Spec PyProof.Rows L2 GR WX TX RZ NdefX LamX
/-- the tables stay where only lists and dicts change -/
theorem TabsN.rest {T : List NTab} {H H' : Hp} (hT : TabsN T H) (k : ∀ b o, (∀ xs, o ≠ .lst xs) → (∀ xs, o ≠ .dK xs) → H b = some o → H' b = some o) : TabsN T H' := fun p hp => by
  obtain ⟨ps, h1, h2, h3⟩ := hT p hp
  refine ⟨ps, k _ _ (fun xs z => by cases z) (fun xs z => by cases z) h1, h2, fun pos cv hc => ?_⟩
  obtain ⟨c, e1, e2⟩ := h3 pos cv hc
  exact ⟨c, e1, k _ _ (fun xs z => by unfold CodeO at z; cases z) (fun xs z => by unfold CodeO at z; cases z) e2⟩
theorem Deck.ext {H H' : Hp} {d c : Addr} {N : Int} (D : Deck H d c N) (x : ExtN H H') : Deck H' d c N := by
  obtain ⟨cells, m, n, h1, h2, h3⟩ := D
  exact ⟨cells, m, n, x _ _ h1 (fun _ z => by cases z), x _ _ h2 (fun _ z => by cases z), h3⟩
theorem Deck.not {H : Hp} {d c : Addr} {N : Int} (D : Deck H d c N) {b : Addr} {o : HO} (ne : ∀ xs, o ≠ .lst xs) (e : H b = some o) : b ≠ d ∧ b ≠ c := by
  obtain ⟨cells, m, n, h1, h2, _⟩ := D
  refine ⟨fun z => ?_, fun z => ?_⟩
  · rw [z, h1] at e
    exact ne _ (Option.some.inj e).symm
  · rw [z, h2] at e
    exact ne _ (Option.some.inj e).symm
section
variable {P : Program} {w : World} {K : PySem.W.Frag} {mg : Str → Option Value} {base : Heap}
abbrev s_law : Stmt := topS 34
abbrev N_law : List Str := ["_law_script", "_law_deck_here", "_law_terms", "_law_turn", "_law_term_here"]
theorem sc_law : FnScope N_law ["_law_script"] (defScope s_law) := ⟨rfl, rfl, rfl, by decide +kernel, rfl, by decide +kernel, by decide +kernel⟩
def sp_law (K : PySem.W.Frag) (T : List NTab) : Sp := fun vs H Q _ => ∃ (a : Addr) (ns : List Int), vs = [.ref a] ∧ SqL K H a (ns.map V.int) ∧ TabsN T H ∧ ∀ H', Q (.bl true) H'
/-- what is drawn, or written by hand -/
def Good (x : PyData) : Prop := ∃ zs : List Str, zs.length = 6 ∧ (∀ z, z ∈ zs → Nm z) ∧ Ex zs 7 x
theorem nm_ok {z : Str} (h : Nm z) : PyData.strOk z = true := so_iff.mpr fun c hc => Nat.lt_of_le_of_lt (h.2.2.1 c hc).2 (by decide)
abbrev hz6 : List Str := ["in", "a", "b", "in", "in", "in"]
theorem hz_in : ∀ z, z ∈ hz → z ∈ hz6 := by decide
theorem cz_in : ∀ z, z ∈ cz → z ∈ hz6 := by decide
theorem hz_nm : ∀ z, z ∈ hz6 → Nm z := by
  intro z hz
  simp only [List.mem_cons, List.not_mem_nil, or_false] at hz
  rcases hz with rfl | rfl | rfl | rfl | rfl | rfl <;> exact nm_lit (by decide)
theorem ok_law {T : List NTab} {f f_deck f_world f_term f_hand f_right f_closed : Addr} {fd d_deck d_world d_term d_hand d_right d_closed : FuncData} {k : Nat} (F : Fun K "law" "law" s_law f fd)
    (G_deck : FnOk P w K mg base CX0 k f_deck d_deck ["_law_script"] (sp_deck K)) (g_deck : mg "_law_deck" = some (.ref f_deck)) (K_deck : PySem.W.keepIn K (.ref f_deck) = true) (b_deck : Binds K d_deck ["_law_script"] [])
    (G_world : FnOk P w K mg base CX0 k f_world d_world ["_law_deck_here"] sp_world) (g_world : mg "_law_world" = some (.ref f_world)) (K_world : PySem.W.keepIn K (.ref f_world) = true) (b_world : Binds K d_world ["_law_deck_here"] [])
    (G_term : FnOk P w K mg base CX0 k f_term d_term ps_term (sp_term K 5)) (g_term : mg "_law_term" = some (.ref f_term)) (K_term : PySem.W.keepIn K (.ref f_term) = true) (b_term : Binds K d_term ps_term [])
    (G_hand : FnOk P w K mg base CX0 k f_hand d_hand [] (sp_hand K)) (g_hand : mg "_law_by_hand" = some (.ref f_hand)) (K_hand : PySem.W.keepIn K (.ref f_hand) = true) (b_hand : Binds K d_hand [] [])
    (G_right : FnG P w K mg base CX0 k f_right d_right ["_law_thing", "_law_other"] (sp_right K T)) (g_right : mg "_law_right" = some (.ref f_right)) (K_right : PySem.W.keepIn K (.ref f_right) = true) (b_right : Binds K d_right ["_law_thing", "_law_other"] [])
    (G_closed : FnOk P w K mg base CX0 k f_closed d_closed ["_law_deck_here"] (sp_closed K)) (g_closed : mg "_law_closed" = some (.ref f_closed)) (K_closed : PySem.W.keepIn K (.ref f_closed) = true) (b_closed : Binds K d_closed ["_law_deck_here"] [])
    (mrange : mg "range" = none) : FnG P w K mg base CX0 (k + 1) f fd ["_law_script"] (sp_law K T) := by
  have nd := sc_law.nd
  refine ok_g F sc_law (fun vs H Q E h => ?_) (fun cdv A outer s H vs Q E hg hr h => ?_)
  · obtain ⟨a, ns, rfl, _⟩ := h
    rfl
  obtain ⟨a, ns, rfl, hS, hTT, q⟩ := h
  refine ⟨_, (pss_cons (ps_set (i := 1) nd rfl (.inr rfl) (pe_call G_deck hr (by rfl) g_deck K_deck b_deck .nil pass0 (pa_cons (pv 0) pa_nil)))
      (pss_cons (ps_setLc (i := 2) (own := [("_law_turn", 3)]) (te := tCall (sp_term K 5) [] E0 (tCons (tVar 1) (tCons (tCall sp_world [] E0 (tCons (tVar 1) tNil)) (tCons (tC (.int 5)) (tCons (tC (.int 0)) tNil))))) rfl nd rfl rfl (sw_true rfl rfl rfl (by decide +kernel)) (pi_range1 rfl mrange (pa_cons pe_int pa_nil)) (blkOk_by (N := N_law) (sc := defScope s_law) (by decide +kernel)) (fun _ _ _ _ _ => (pg_name (i := 3) nd rfl (Or.inl rfl))) (fun _ _ _ _ _ => pts_nil) (fun _ _ _ _ _ => (pe_call G_term hr (by rfl) g_term K_term b_term .nil pass0 (pa_cons (pv 1) (pa_cons (pe_call G_world hr (by rfl) g_world K_world b_world .nil pass0 (pa_cons (pv 1) pa_nil)) (pa_cons pe_int (pa_cons pe_int pa_nil)))))))
      (pss_one (ps_ret (pe_cmpR (op_eqD hr.units) (pe_lc (own := [("_law_term_here", 4)]) rfl nd (pi_list (pe_op op_cat (pv 2) (pe_call0 G_hand hr (by rfl) g_hand K_hand b_hand .nil pass0))) (blkOk_by (N := N_law) (sc := defScope s_law) (by decide +kernel)) (fun _ _ _ _ _ => (pg_name (i := 4) nd rfl (Or.inl rfl))) (tt := tNot (tB (tCall (sp_right K T) [] E0 (tCons (tVar 4) (tCons (tCall (sp_closed K) [] E0 (tCons (tVar 1) tNil)) tNil))))) (fun _ _ _ _ _ => (pts_one (pt_not (pt_val (pe_callG G_right hg hr (by rfl) g_right K_right b_right pass0 (pa_cons (pv 4) (pa_cons (pe_call G_closed hr (by rfl) g_closed K_closed b_closed .nil pass0 (pa_cons (pv 1) pa_nil)) pa_nil))))))) (te := tVar 4) (fun _ _ _ _ _ => (pv 4))) (pe_lst pa_nil) (nomark _)))))), ?_⟩
  refine ⟨.ref a, rfl, a, ns, rfl, hS, fun H1 d c s1 n1 D1 => ?_⟩
  refine ⟨8, rfl, by decide, by decide, fun B nB => ?_⟩
  refine lc_range (n := 8) (fun i H' => ∃ us ds, H' B = some (.lst us) ∧ us.length = i ∧ DpAll K H' us ds ∧ Deck H' d c (110000 * (i : Int)) ∧ TabsN T H' ∧ ∀ x, x ∈ ds → Good x) ?_ ?_ ?_
  · exact ⟨[], [], upd_same, rfl, .nil, D1.same (same_upd nB), fun p hp => (hTT p hp).ext (s1.trans (same_upd nB)), fun x hx => (nomatch hx)⟩
  · rintro i H2 hi ⟨us, ds, hB, hl, hd, D2, hT2, hx⟩
    have hBd := D1.new nB
    refine ⟨rfl, yes_then ⟨.ref d, rfl, .ref d, rfl, d, c, _, rfl, D2, by omega, fun H3 u nl zs k3 D3 nu nnl W3 => ?_⟩⟩
    have e5 : dr 5 = 108860 := by decide
    refine ⟨d, c, u, nl, _, 5, 0, zs, rfl, D3, by omega, W3, by decide, fun H4 v x k4 D4 W4 he hv => ?_⟩
    have hBu : B ≠ u := ne_of_none hB nu
    have hB3 := k3 _ _ hBd.1 hBd.2 hB
    have hB4 := k4 _ _ hBd.1 hBd.2 hBu hB3
    have kt := (k3.t D2).trans (k4.t D3 W3)
    have kt5 : KeepT H4 (upd H4 B (.lst (us ++ [v]))) := KeepT.lst hB4
    have hf : flatDs ds = true := flatDs_of fun y hy => by
      obtain ⟨zs, _, _, h⟩ := hx y hy
      exact h.flat
    have hT3 : TabsN T H3 := K6.TabsN.rest hT2 fun b o ne _ e => k3 b o (D2.not ne e).1 (D2.not ne e).2 e
    have hT4 : TabsN T H4 := K6.TabsN.rest hT3 fun b o ne nd e => k4 b o (D3.not ne e).1 (D3.not ne e).2 (fun z => by
      obtain ⟨LL, hLL⟩ := W3.dct
      rw [z, hLL] at e
      exact nd _ (Option.some.inj e).symm) e
    have hT5 : TabsN T (upd H4 B (.lst (us ++ [v]))) := K6.TabsN.rest hT4 fun b o ne _ e => by
      rw [upd_ne (fun z => by rw [z, hB4] at e; exact ne _ (Option.some.inj e).symm)]
      exact e
    refine ⟨us, hB4, small1000 (by omega), us ++ [v], ds ++ [x], upd_same, by rw [List.length_append, hl]; rfl, dpAll_append (dp_keepAll (kt.trans kt5) _ _ hf hd) (.cons (dp_keep kt5 _ _ he.flat hv) .nil), (D4.upd hBd.1 hBd.2).mono (by omega), hT5, fun y hy => ?_⟩
    rcases List.mem_append.mp hy with hy | hy
    · exact hx y hy
    · rw [List.mem_singleton.mp hy]
      exact ⟨zs, W3.len, W3.all, he⟩
  · rintro H2 ⟨us, ds, hB, hl, hd, D2, hT2, hx⟩
    have hBd := D1.new nB
    have hf : flatDs ds = true := flatDs_of fun y hy => by
      obtain ⟨zs, _, _, h⟩ := hx y hy
      exact h.flat
    refine ⟨.ref B, rfl, rfl, fun H3 p us2 ds2 s3 np hp hd2 hx2 hl2 => ?_⟩
    refine ⟨B, p, us, us2, rfl, rfl, s3 _ _ hB, hp, small_le (by omega), fun L nL => ?_⟩
    have s4 := same_upd (o := .lst (us ++ us2)) nL
    have hL : upd H3 L (.lst (us ++ us2)) L = some (.lst (us ++ us2)) := upd_same
    have s34 := s3.trans s4
    have D4 := D2.same s34
    have hT4 : TabsN T (upd H3 L (.lst (us ++ us2))) := fun p hp => (hT2 p hp).ext s34
    have hf2 := flat_ex hx2
    have hdA := dpAll_append (dp_keepAll (KeepT.of s34) _ _ hf hd) (dp_keepAll (KeepT.of s4) _ _ hf2 hd2)
    have hxA : ∀ x, x ∈ ds ++ ds2 → Good x := fun x hx' => by
      rcases List.mem_append.mp hx' with h | h
      · exact hx x h
      · exact ⟨hz6, rfl, hz_nm, (Ex.names hz_in (hx2 x h)).mono (by decide)⟩
    have hLd := (D2.same s3).new nL
    revert hL s4 D4 hdA hT4
    clear s34
    generalize upd H3 L (.lst (us ++ us2)) = H4
    intro s4 hL D4 hT4 hdA
    have lA : (us ++ us2).length ≤ 60 := by
      rw [List.length_append]
      omega
    revert hdA hxA lA hL
    generalize us ++ us2 = uA
    generalize ds ++ ds2 = dA
    intro hxA hL hdA lA
    have hfA : flatDs dA = true := flatDs_of fun y hy => by
      obtain ⟨zs, _, _, h⟩ := hxA y hy
      exact h.flat
    refine ⟨L, rfl, ⟨_, .inl (.inl hL)⟩, fun R nR => ?_⟩
    have hRd := D4.new nR
    have hRL : L ≠ R := ne_of_none hL nR
    refine lc_list (xs := uA) (fun i H' => H' R = some (.lst []) ∧ H' L = some (.lst uA) ∧ DpAll K H' uA dA ∧ Deck H' d c (110000 * ((8 : Nat) : Int) + 4 * (i : Int)) ∧ TabsN T H') ?_ ?_ ?_ ?_
    · have sR := same_upd (o := .lst []) nR
      exact ⟨upd_same, sR _ _ hL, dp_keepAll (KeepT.of sR) _ _ hfA hdA, (D4.same sR).mono (by omega), fun p hp => (hT4 p hp).ext sR⟩
    · rintro i H' _ ⟨_, h, _⟩
      exact .inl (.inl h)
    · rintro i x H5 hx5 ⟨hR5, hL5, hd5, D5, hT5⟩
      have hi : i < uA.length := (List.getElem?_eq_some_iff.mp hx5).1
      obtain ⟨dx, hdx, hvx⟩ := dpAll_at hd5 hx5
      obtain ⟨zs, hzl, hzn, hex⟩ := hxA dx (List.mem_of_getElem? hdx)
      refine ⟨rfl, x, rfl, .ref d, rfl, d, c, _, rfl, D5, by omega, fun H6 vo o k6 D6 eo fo po so ho => ?_⟩
      have kt6 := k6.t D5
      have hT6 : TabsN T H6 := K6.TabsN.rest hT5 fun b o ne _ e => k6 b o (D5.not ne e).1 (D5.not ne e).2 e
      have hN : ∀ z, z ∈ zs ++ hz6 → Nm z := fun z hz => by
        rcases List.mem_append.mp hz with h | h
        · exact hzn z h
        · exact hz_nm z h
      have hex2 := Ex.names (ws := zs ++ hz6) (fun z hz => List.mem_append_left _ hz) hex
      have eo2 := Ex.names (ws := zs ++ hz6) (fun z hz => List.mem_append_right _ (cz_in z hz)) eo
      have hb7 : bnd 7 = 55987 := by decide
      have hpx := flatP_len hex
      refine ⟨x, vo, dx, o, zs ++ hz6, rfl, dp_keep kt6 _ _ hex.flat hvx, ho, ⟨hex2, eo2, fo, by omega, po, so, hN, fun z hz => nm_ok (hN z hz), by rw [List.length_append, hzl]; decide⟩, hT6, fun H7 s7 hT7 => ⟨_, rfl, ite2 (fun e => (nomatch e)) (fun _ => ?_)⟩⟩
      exact ⟨s7 _ _ (k6 _ _ hRd.1 hRd.2 hR5) (fun _ z => by cases z), s7 _ _ (k6 _ _ hLd.1 hLd.2 hL5) (fun _ z => by cases z), dp_keepAll (kt6.trans (KeepT.ext s7)) _ _ hfA hd5, (D6.ext s7).mono (by omega), hT7⟩
    · rintro H5 ⟨hR5, _, _, D5, _⟩
      refine ⟨Nat.zero_le _, fun r2 nr2 => ?_⟩
      have s6 := same_upd (o := .lst []) nr2
      refine ⟨.list [], .list [], .lst (.inl (.inl (s6 _ _ hR5))) .nil, .lst (.inl (.inl upd_same)) .nil, rfl, rfl, ?_⟩
      rw [show PyData.eqv (.list []) (.list []) = true from by simp only [PyData.eqv, PyData.eqvAll]]
      exact q _
end
end K6

/-! GT: a law that shows things (GR) and whose program makes functions anew (tables of code objects, empty at the start, tracked from there on). -/
namespace GR
open PySem PySem.Spec PyProof.Rows L2
/-- a table without an entry -/
abbrev tab0 : Obj := { cls := .none, data := .fields #[] }
/-- at the law's start: the tables, and the script where it is not a written object -/
def startHp (ts : List Addr) (a : Addr) (own : Bool) (o : Obj) (xs : List V) : Hp := fun b => if b ∈ ts then some (.tbl #[]) else if own = true ∧ b = a then some (.frz o (.lst xs)) else none
section
variable {ts : List Addr} {a b : Addr} {own : Bool} {o : Obj} {xs : List V}
theorem startHp_tab (h : b ∈ ts) : startHp ts a own o xs b = some (.tbl #[]) := if_pos h
theorem startHp_own (h : a ∉ ts) : startHp ts a true o xs a = some (.frz o (.lst xs)) := (if_neg h).trans (if_pos ⟨rfl, rfl⟩)
theorem startHp_cases {u : HO} (h : startHp ts a own o xs b = some u) : (b ∈ ts ∧ u = .tbl #[]) ∨ (b ∉ ts ∧ own = true ∧ b = a ∧ u = .frz o (.lst xs)) := by
  unfold startHp at h
  split at h
  · rename_i hb
    exact .inl ⟨hb, (Option.some.inj h).symm⟩
  · rename_i hb
    split at h
    · rename_i hc
      exact .inr ⟨hb, hc.1, hc.2, (Option.some.inj h).symm⟩
    · cases h
end
theorem law_callGT {P : Program} {w : World} {K : PySem.W.Frag} {mg mb : Str → Option Value} {k : Nat} {fa a : Addr} {cs : List (Addr × Addr)} {fd : FuncData} {x : Str} {sp : Sp} {s₁ : Shared} {vs : List Value} {ns : List Int}
    (KX : K.In s₁.heap) (hns : s₁.heap.Ns mainGlobals mg) (hb : s₁.heap.Ns builtinsNs mb) (hbb : ∀ x : Str, x ≠ "__name__" → mb x = bootBuiltins x) (hlim : s₁.heap.NoLimit) (hg : s₁.gens = #[])
    (hT : ∀ p ∈ cs, s₁.heap.get? p.2 = some tab0) (nT : ∀ p ∈ cs, K.lookup p.2 = none) (hC : ∀ p ∈ cs, PySem.W.codeHdIn K p.1 p.2 = true)
    (hbm : ∃ (bm : Addr) (ob : Obj), mg "__builtins__" = some (.ref bm) ∧ bm ≠ builtinsNs ∧ s₁.heap.get? bm = some ob ∧ ob.cls = .type "module" ∧ ob.dict = some builtinsNs ∧ ob.data = .plain)
    (ha : s₁.heap.get? a = some { cls := .type "list", data := .seq vs.toArray }) (hi : IntsAre vs ns) (hl : ns.length ≤ sizeLine) (hr : Room k callerA)
    (F : ∀ base : Heap, K.In base → base.Ns mainGlobals mg → (∀ p ∈ cs, LamX.TabB base mg p.1 p.2) → FnG P w K mg base CX0 k fa fd [x] sp) (hbind : ∀ (s : Shared) (u : Value), BindsTo s fd ⟨[u], []⟩ [(x, u)])
    (hsp : ∀ H : Hp, (∀ p ∈ cs, H p.2 = some (.tbl #[])) → SqL K H a (ns.map V.int) → sp [.ref a] H (fun v _ => v = .bl true) fun _ _ _ => False) :
    codeAny (model P w) callerA (.call (.ref fa) ⟨[.ref a], []⟩) (fun r s' => r = .ok (.ret (.bool true)) ∧ OldK s₁.heap s'.heap ∧ s'.os = s₁.os ∧ AllBare s'.gens) s₁ := by
  have rv := vals_ints hi
  have tabAt : ∀ {b : Addr}, b ∈ cs.map (·.2) → s₁.heap.get? b = some tab0 := fun {b} hb => by
    obtain ⟨p, hp, rfl⟩ := List.mem_map.mp hb
    exact hT p hp
  have aNot : a ∉ cs.map (·.2) := fun z => by
    have e := tabAt z
    rw [ha] at e
    have e2 : Data.seq vs.toArray _ = Data.fields #[] := congrArg Obj.data (Option.some.inj e)
    cases e2
  -- the tracked heap
  obtain ⟨own, hown, hown2⟩ : ∃ own : Bool, (own = true → K.lookup a = none) ∧ (own = false → ∃ o, K.lookup a = some o) := by
    cases e : K.lookup a with
    | none => exact ⟨true, fun _ => rfl, fun z => by cases z⟩
    | some o => exact ⟨false, (fun z => by cases z), fun _ => ⟨o, rfl⟩⟩
  let so : Obj := { cls := .type "list", data := .seq vs.toArray }
  have hSp : ∃ H : Hp, H = startHp (cs.map (·.2)) a own so (ns.map V.int) := ⟨_, rfl⟩
  obtain ⟨H, hH⟩ := hSp
  have cases_ : ∀ {b : Addr} {u : HO}, H b = some u → (b ∈ cs.map (·.2) ∧ u = .tbl #[]) ∨ (b ∉ cs.map (·.2) ∧ own = true ∧ b = a ∧ u = .frz so (.lst (ns.map V.int))) := fun {b u} e => by
    rw [hH] at e
    exact startHp_cases e
  have htab : ∀ p ∈ cs, H p.2 = some (.tbl #[]) := fun p hp => by
    rw [hH]
    exact startHp_tab (List.mem_map.mpr ⟨p, hp, rfl⟩)
  have hseq : SqL K H a (ns.map V.int) := by
    cases own with
    | true =>
      refine .inl (.inr ⟨so, ?_⟩)
      rw [hH]
      exact startHp_own aNot
    | false =>
      obtain ⟨o, ho⟩ := hown2 rfl
      have e := KX a o ho
      rw [ha] at e
      cases e
      refine .inr ⟨_, vs.toArray, _, ho, rfl, rfl, rfl, ?_, by simpa using rv⟩
      rw [List.size_toArray, hi.length]
      exact hl
  have hok : HOk P w H s₁.heap := fun b u e => by
    rcases cases_ e with ⟨hb, rfl⟩ | ⟨_, _, rfl, rfl⟩
    · exact tabAt hb
    · refine ⟨ha, ?_, vs, _, rv, ha⟩
      rw [List.length_map]
      exact hl
  -- what is not tracked
  have free : ∀ {b : Addr} {o : Obj}, s₁.heap.get? b = some o → (∀ us m, o.data ≠ .seq us m) → o.data ≠ .fields #[] → H b = none := fun {b o} e n1 n2 => by
    cases q : H b with
    | none => rfl
    | some u =>
      rcases cases_ q with ⟨hb, _⟩ | ⟨_, _, rfl, _⟩
      · rw [tabAt hb] at e
        cases e
        exact absurd rfl n2
      · rw [ha] at e
        cases e
        exact absurd rfl (n1 _ _)
  have nsHid : ∀ {b : Addr} {m : Str → Option Value}, s₁.heap.Ns b m → (hidT s₁.heap H).Ns b m := fun {b m} h => by
    obtain ⟨o, es, ep, e, d, r⟩ := h
    refine ns_hid ⟨o, es, ep, e, d, r⟩ (free e (fun us m z => ?_) fun z => ?_)
    · rw [d] at z
      cases z
    · rw [d] at z
      cases z
  have inB : K.In (hidT s₁.heap H) := fun b o e => by
    refine hidT_get (KX b o e) ?_
    cases q : H b with
    | none => rfl
    | some u =>
      rcases cases_ q with ⟨hb, _⟩ | ⟨_, h1, rfl, _⟩
      · obtain ⟨p, hp, rfl⟩ := List.mem_map.mp hb
        rw [nT p hp] at e
        cases e
      · rw [hown h1] at e
        cases e
  have gB := nsHid hns
  have md : Mod K mg (hidT s₁.heap H) := by
    refine ⟨inB, gB, ⟨mb, nsHid hb, hbb⟩, ?_⟩
    obtain ⟨mc, l1, l2⟩ := hlim
    exact ⟨mc, nsHid l1, l2⟩
  have noMain : ∀ p ∈ cs, mainGlobals ≠ p.2 := fun p hp z => by
    obtain ⟨o, es, ep, e, d, _⟩ := hns
    rw [z, hT p hp] at e
    cases e
    cases d
  have tabs : ∀ p ∈ cs, LamX.TabB (hidT s₁.heap H) mg p.1 p.2 := fun p hp => by
    refine NdefX.tabB_of_K inB (hC p hp) ?_ (noMain p hp)
    obtain ⟨bm, ob, b1, b2, b3, b4, b5, b6⟩ := hbm
    refine ⟨bm, ob, b1, b2, fun z => ?_, fun z => ?_, hidT_get b3 (free b3 (fun us m z => ?_) fun z => ?_), b4, b5, b6⟩
    · obtain ⟨o, es, ep, e, d, _⟩ := hns
      rw [z, e] at b3
      cases b3
      rw [d] at b6
      cases b6
    · rw [z, hT p hp] at b3
      cases b3
      cases b6
    · rw [b6] at z
      cases z
    · rw [b6] at z
      cases z
  have start0 : Env0 P w K mg (hidT s₁.heap H) callerA [] s₁ H := by
    constructor
    · rfl
    · exact md
    · exact fun b o e => of_hidT e
    · exact Nat.le_of_eq (hidT_size _ _)
    · trivial
    · intro b hb
      exact absurd (show b ∈ ([] : List Addr) from hb) (by simp)
    · exact hok
    · exact .of_eq hg
  have went := (F _ inB gB tabs).go callerA [] s₁ H ⟨[.ref a], []⟩ [.ref a] [.ref a] (fun v _ => v = .bl true) (fun _ _ _ => False) rfl hr start0 (hbind s₁ (.ref a)) (.cons rfl .nil) (hsp H htab hseq)
  refine codeAny_mono went ?_
  rintro (er | fl) s' h
  · exact False.elim h
  cases fl with
  | next => exact False.elim h
  | brk => exact False.elim h
  | cont => exact False.elim h
  | ret u =>
    obtain ⟨v, H', os, bare, un, ok', rv', q⟩ := h
    cases (show v = .bl true from q)
    cases (show u = Value.bool true from rv')
    have same : ∀ b o, b ∉ cs.map (·.2) → s₁.heap.get? b = some o → s'.heap.get? b = some o := fun b o hb e => by
      cases z : H b with
      | none => exact un.keep b o e z (fun m => absurd (show b ∈ ([] : List Addr) from m) (by simp)) (by simp)
      | some u =>
        rcases cases_ z with ⟨hb', _⟩ | ⟨_, _, rfl, rfl⟩
        · exact absurd hb' hb
        · have e2 := (ok' b _ (un.frzs b so _ z)).1
          rw [ha] at e
          cases e
          exact e2
    have grew : ∀ p ∈ cs, ∃ more : Array Value, s'.heap.get? p.2 = some { cls := .none, data := .fields more } := fun p hp => by
      obtain ⟨more, z⟩ := un.tbls p.2 #[] (htab p hp)
      exact ⟨_, ok' p.2 _ z⟩
    refine ⟨rfl, ⟨fun b o e => ?_, fun b o e => ?_⟩, os, bare⟩
    · by_cases hb : b ∈ cs.map (·.2)
      · obtain ⟨p, hp, rfl⟩ := List.mem_map.mp hb
        obtain ⟨more, hm⟩ := grew p hp
        rw [hT p hp] at e
        cases e
        refine .inr (.inl ⟨((PySem.W.codeHd_of_K KX (hC p hp)).tab (hT p hp)).isCodeTable, rfl, #[], more, rfl, ?_⟩)
        rw [hm, Array.empty_append]
      · exact .inl (same b o hb e)
    · by_cases hb : b ∈ cs.map (·.2)
      · obtain ⟨p, hp, rfl⟩ := List.mem_map.mp hb
        obtain ⟨more, hm⟩ := grew p hp
        exact ⟨_, hm⟩
      · exact ⟨o, same b o hb e⟩
theorem walk_gt {l : PySem.W.OpenLaw} {n k : Nat} {q : Program} {loose : List Str} {XP : (Str → Option Value) → Heap → Prop} {YP : World → Heap → Prop} {d : DefRec} {K : Params → PySem.W.Frag} {cs : List (Addr × Addr)} {sp : PySem.W.Frag → Sp} {x : Str}
    (hn : l.most = some n) (hn2 : n ≤ sizeLine) (hdf : d.params.defaults = []) (hr : Room k callerA)
    (hY : ∀ (w : World) (h : Heap), YP w h → (K w.params).In h) (hT : ∀ (w : World) (h : Heap), YP w h → ∀ p ∈ cs, h.get? p.2 = some tab0)
    (nT : ∀ w : World, ∀ p ∈ cs, (K w.params).lookup p.2 = none) (hC : ∀ w : World, ∀ p ∈ cs, PySem.W.codeHdIn (K w.params) p.1 p.2 = true)
    (F : ∀ (w : World) (mg : Str → Option Value) (fa : Addr) (h : Heap), (K w.params).In h → h.Ns mainGlobals mg → mg d.name = some (.ref fa) →
      ∃ fd : FuncData, (∀ (s : Shared) (u : Value), BindsTo s fd ⟨[u], []⟩ [(x, u)]) ∧
        ∀ base : Heap, (K w.params).In base → base.Ns mainGlobals mg → (∀ p ∈ cs, LamX.TabB base mg p.1 p.2) → FnG l.prog w (K w.params) mg base CX0 k fa fd [x] (sp (K w.params)))
    (hsp : ∀ (K : PySem.W.Frag) (H : Hp) (a : Addr) (ns : List Int), ns.length ≤ n → (∀ p ∈ cs, H p.2 = some (.tbl #[])) → SqL K H a (ns.map V.int) → sp K [.ref a] H (fun v _ => v = .bl true) fun _ _ _ => False) :
    PySem.W.WalkO q loose XP YP l.row.toRowW d [] (fun f vs => PySem.call f vs) := by
  apply Att.attach_call hn hdf
  intro w s₀ s₁ mg mb fa o pm cd doc a vs ns G Y ho hd hcd hmg hobj hints hlen hg
  obtain ⟨fd, bnd, keeps⟩ := F w mg fa _ (hY w _ Y) G.T.g hmg
  exact law_callGT (hY w _ Y) G.T.g G.T.b G.T.builtins G.T.nolimit hg (hT w _ Y) (nT w) (hC w) G.T.bmain hobj hints (Nat.le_trans hlen hn2) hr keeps bnd (fun H => hsp _ H a ns hlen)
end GR

namespace K6
open PySem PySem.Spec PyProof.Rows L2 GR WX TX RZ
/-- a def stands in the text's top -/
def Has (K : PySem.W.Frag) (x : Str) (st : Stmt) : Prop := ∃ (f : Addr) (fd : FuncData), PySem.W.nsIn K mainGlobals x = some (some (.ref f)) ∧ Fun K x x st f fd
theorem has_mk {K : PySem.W.Frag} {x : Str} {st : Stmt} {f : Addr} {oc : Value} {od an : Option Addr} {osl : Array (Option Value)} {kV doc pm cdv ct : Value} (a : PySem.W.nsIn K mainGlobals x = some (some (.ref f)))
    (l : K.lookup f = some ⟨oc, od, .func (PySem.W.fnOf x x (defArgs st) (defBody st) (defScope st) .none kV doc pm an cdv ct), osl⟩) (c : PySem.W.codeIn K cdv x = true) (k : PySem.W.keepIn K (.ref f) = true) : Has K x st := ⟨f, _, a, fun_mk l c k⟩
/-- a written tuple of texts -/
def KTx (K : PySem.W.Frag) (p : Addr) (fs : List Str) : Prop := ∀ H, SqT K H p (fs.map V.str)
theorem ktx_mk {K : PySem.W.Frag} {p : Addr} {fs : List Str} {d : Option Addr} {its : Array Value} {n : Nat} {sl : Array (Option Value)} (l : K.lookup p = some ⟨.type "tuple", d, .seq its n, sl⟩) (hv : Vals (fs.map V.str) its.toList) (hs : fs.length ≤ 100) : KTx K p fs := fun H =>
  .inr ⟨_, its, n, l, rfl, rfl, by have h1 := hv.length; rw [List.length_map] at h1; have h2 : its.toList.length = its.size := Array.length_toList ..; exact small_le (by omega), hv⟩
theorem flds_mk {K : PySem.W.Frag} {w : World} {fA : Addr} {es : Array DictEntry} {n : Nat} (l : K.lookup fA = some ⟨.type "dict", none, .dict es n, #[]⟩) (kl : PySem.W.KeysLit w.params es.toList)
    {p0 : Addr} (q0 : PySem.W.nsIn K fA "int" = some (some (.ref p0))) (r0 : KTx K p0 ["value"])
    {p1 : Addr} (q1 : PySem.W.nsIn K fA "var" = some (some (.ref p1))) (r1 : KTx K p1 ["name"])
    {p2 : Addr} (q2 : PySem.W.nsIn K fA "key" = some (some (.ref p2))) (r2 : KTx K p2 [])
    {p3 : Addr} (q3 : PySem.W.nsIn K fA "let" = some (some (.ref p3))) (r3 : KTx K p3 ["position"])
    {p4 : Addr} (q4 : PySem.W.nsIn K fA "cell" = some (some (.ref p4))) (r4 : KTx K p4 ["name", "free", "name"])
    {p5 : Addr} (q5 : PySem.W.nsIn K fA "+" = some (some (.ref p5))) (r5 : KTx K p5 ["free", "free"])
    {p6 : Addr} (q6 : PySem.W.nsIn K fA "-" = some (some (.ref p6))) (r6 : KTx K p6 ["free", "free"])
    {p7 : Addr} (q7 : PySem.W.nsIn K fA "*" = some (some (.ref p7))) (r7 : KTx K p7 ["free", "free"])
    {p8 : Addr} (q8 : PySem.W.nsIn K fA "<" = some (some (.ref p8))) (r8 : KTx K p8 ["free", "free"])
    {p9 : Addr} (q9 : PySem.W.nsIn K fA "=" = some (some (.ref p9))) (r9 : KTx K p9 ["free", "free"])
    {p10 : Addr} (q10 : PySem.W.nsIn K fA "if" = some (some (.ref p10))) (r10 : KTx K p10 ["free", "free", "free"])
    {p11 : Addr} (q11 : PySem.W.nsIn K fA "at" = some (some (.ref p11))) (r11 : KTx K p11 ["free", "bound"])
    {p12 : Addr} (q12 : PySem.W.nsIn K fA "count" = some (some (.ref p12))) (r12 : KTx K p12 ["name", "extra", "bound", "bound"])
    {p13 : Addr} (q13 : PySem.W.nsIn K fA "sum" = some (some (.ref p13))) (r13 : KTx K p13 ["name", "extra", "bound", "bound", "bound"])
    {p14 : Addr} (q14 : PySem.W.nsIn K fA "most" = some (some (.ref p14))) (r14 : KTx K p14 ["name", "extra", "bound", "bound", "bound", "free"])
    {p15 : Addr} (q15 : PySem.W.nsIn K fA "first" = some (some (.ref p15))) (r15 : KTx K p15 ["name", "extra", "bound", "bound", "free"])
    : Flds K w fA := by
  intro wd fs h
  simp only [table, List.mem_cons, List.not_mem_nil, or_false, Prod.mk.injEq] at h
  rcases h with ⟨rfl, rfl⟩ | ⟨rfl, rfl⟩ | ⟨rfl, rfl⟩ | ⟨rfl, rfl⟩ | ⟨rfl, rfl⟩ | ⟨rfl, rfl⟩ | ⟨rfl, rfl⟩ | ⟨rfl, rfl⟩ | ⟨rfl, rfl⟩ | ⟨rfl, rfl⟩ | ⟨rfl, rfl⟩ | ⟨rfl, rfl⟩ | ⟨rfl, rfl⟩ | ⟨rfl, rfl⟩ | ⟨rfl, rfl⟩ | ⟨rfl, rfl⟩
  · exact ⟨p0, ⟨es, n, _, l, kl, q0, rfl⟩, r0⟩
  · exact ⟨p1, ⟨es, n, _, l, kl, q1, rfl⟩, r1⟩
  · exact ⟨p2, ⟨es, n, _, l, kl, q2, rfl⟩, r2⟩
  · exact ⟨p3, ⟨es, n, _, l, kl, q3, rfl⟩, r3⟩
  · exact ⟨p4, ⟨es, n, _, l, kl, q4, rfl⟩, r4⟩
  · exact ⟨p5, ⟨es, n, _, l, kl, q5, rfl⟩, r5⟩
  · exact ⟨p6, ⟨es, n, _, l, kl, q6, rfl⟩, r6⟩
  · exact ⟨p7, ⟨es, n, _, l, kl, q7, rfl⟩, r7⟩
  · exact ⟨p8, ⟨es, n, _, l, kl, q8, rfl⟩, r8⟩
  · exact ⟨p9, ⟨es, n, _, l, kl, q9, rfl⟩, r9⟩
  · exact ⟨p10, ⟨es, n, _, l, kl, q10, rfl⟩, r10⟩
  · exact ⟨p11, ⟨es, n, _, l, kl, q11, rfl⟩, r11⟩
  · exact ⟨p12, ⟨es, n, _, l, kl, q12, rfl⟩, r12⟩
  · exact ⟨p13, ⟨es, n, _, l, kl, q13, rfl⟩, r13⟩
  · exact ⟨p14, ⟨es, n, _, l, kl, q14, rfl⟩, r14⟩
  · exact ⟨p15, ⟨es, n, _, l, kl, q15, rfl⟩, r15⟩
/-- a def of the top whose code object is known -/
def HasC (K : PySem.W.Frag) (x : Str) (st : Stmt) (c : Addr) : Prop := ∃ (f : Addr) (fd : FuncData), PySem.W.nsIn K mainGlobals x = some (some (.ref f)) ∧ CLo.FunC K x x st f fd c
theorem has_mkC {K : PySem.W.Frag} {x : Str} {st : Stmt} {f c : Addr} {oc : Value} {od an : Option Addr} {osl : Array (Option Value)} {kV doc pm ct : Value} (a : PySem.W.nsIn K mainGlobals x = some (some (.ref f)))
    (l : K.lookup f = some ⟨oc, od, .func (PySem.W.fnOf x x (defArgs st) (defBody st) (defScope st) .none kV doc pm an (.ref c) ct), osl⟩) (cc : PySem.W.codeIn K (.ref c) x = true) (k : PySem.W.keepIn K (.ref f) = true) : HasC K x st c := ⟨f, _, a, ⟨⟨oc, od, kV, doc, pm, an, ct, osl, rfl, l, cc⟩, k⟩⟩
abbrev TTs (PK : Addr) : List NdefX.NTab := [(PK, Fo.nmK)]
theorem all1 {p : Addr × Addr} {R : Addr × Addr → Prop} (h : R p) : ∀ x ∈ [p], R x := fun x hx => by
  rw [List.mem_singleton.mp hx]
  exact h
theorem tabs1 {h : Heap} {cK PK : Addr} (h1 : h.get? PK = some GR.tab0) : ∀ p ∈ [(cK, PK)], h.get? p.2 = some GR.tab0 := all1 h1
theorem tts_mk {H : Hp} {cK PK : Addr} (h : ∀ p ∈ [(cK, PK)], H p.2 = some (.tbl #[])) : NdefX.TabsN (TTs PK) H := fun p hp => by
  rw [List.mem_singleton.mp hp]
  exact NdefX.TabN.nil (h (cK, PK) List.mem_cons_self)
theorem all_mk {P : Program} {w : World} {K : PySem.W.Frag} {h : Heap} {mg : Str → Option Value} {fa : Addr} {cK PK : Addr} (X : K.In h) (G : h.Ns mainGlobals mg) (hfa : mg "law" = some (.ref fa))
    (X_contained : Has K "contained" s_contained)
    (X_contained_free : Has K "contained_free" s_contained_free)
    (X_contained_of : Has K "contained_of" s_contained_of)
    (X_with_contained_of : Has K "with_contained_of" Fo.s_with_contained_of)
    (X_folded : Has K "folded" Fo.s_folded)
    (X_one_deeper : Has K "one_deeper" s_one_deeper)
    (X_all_parts : Has K "all_parts" s_all_parts)
    (X_rows_of : Has K "rows_of" s_rows_of)
    (X_is_plain : Has K "is_plain" s_is_plain)
    (X_is_plain_part : Has K "is_plain_part" s_is_plain_part)
    (X_has_free_key : Has K "has_free_key" s_has_free_key)
    (X_is_closed : Has K "is_closed" s_is_closed)
    (X_is_simple : Has K "is_simple" s_is_simple)
    (X_variables_of : Has K "variables_of" s_variables_of)
    (X_keyed : HasC K "keyed" Fo.s_keyed cK)
    (X_law_deck : Has K "_law_deck" s_law_deck)
    (X_law_draw : Has K "_law_draw" s_law_draw)
    (X_law_pick : Has K "_law_pick" s_law_pick)
    (X_law_names : Has K "_law_names" s_law_names)
    (X_law_world : Has K "_law_world" s_law_world)
    (X_law_leaf : Has K "_law_leaf" s_law_leaf)
    (X_law_rows : Has K "_law_rows" s_law_rows)
    (X_law_term : Has K "_law_term" s_law_term)
    (X_law_within : Has K "_law_within" s_law_within)
    (X_law_look : Has K "_law_look" s_law_look)
    (X_law_put : Has K "_law_put" s_law_put)
    (X_law_closed : Has K "_law_closed" s_law_closed)
    (X_law_by_hand : Has K "_law_by_hand" s_law_by_hand)
    (X_law_right : Has K "_law_right" s_law_right)
    (X_law : Has K "law" s_law)
    (z_list : PySem.W.nsIn K mainGlobals "list" = some none) (z_sum : PySem.W.nsIn K mainGlobals "sum" = some none) (z_len : PySem.W.nsIn K mainGlobals "len" = some none) (z_range : PySem.W.nsIn K mainGlobals "range" = some none) (z_int : PySem.W.nsIn K mainGlobals "int" = some none) (z_repr : PySem.W.nsIn K mainGlobals "repr" = some none) (z_tuple : PySem.W.nsIn K mainGlobals "tuple" = some none) (z_zip : PySem.W.nsIn K mainGlobals "zip" = some none) (z_sorted : PySem.W.nsIn K mainGlobals "sorted" = some none) (z_all : PySem.W.nsIn K mainGlobals "all" = some none)
    
    {fA : Addr} (z_FIELDS : PySem.W.nsIn K mainGlobals "FIELDS" = some (some (.ref fA))) (T_FIELDS : Flds K w fA) {aP : Addr} (z_ALL : PySem.W.nsIn K mainGlobals "ALL_PARTS" = some (some (.ref aP))) (T_ALL : KTx K aP W2) {aA : Addr} (z_AGG : PySem.W.nsIn K mainGlobals "AGGREGATES" = some (some (.ref aA))) (T_AGG : AggK K aA)
    : ∃ fd : FuncData, (∀ (s : Shared) (v : Value), BindsTo s fd ⟨[v], []⟩ [("_law_script", v)]) ∧ ∀ base : Heap, K.In base → base.Ns mainGlobals mg → (∀ p ∈ [(cK, PK)], LamX.TabB base mg p.1 p.2) → FnG P w K mg base CX0 15 fa fd ["_law_script"] (sp_law K (TTs PK)) := by
  obtain ⟨fcontained, dcontained, acontained, Fcontained⟩ := X_contained
  have gcontained := PySem.W.mg_of X G acontained
  have bcontained : Binds K dcontained ["expression"] [] := Fcontained.binds (ps := ["expression"]) fun _ _ _ _ _ _ us hl => match us, hl with | [_], _ => rfl
  obtain ⟨fcontained_free, dcontained_free, acontained_free, Fcontained_free⟩ := X_contained_free
  have gcontained_free := PySem.W.mg_of X G acontained_free
  have bcontained_free : Binds K dcontained_free ["expression"] [] := Fcontained_free.binds (ps := ["expression"]) fun _ _ _ _ _ _ us hl => match us, hl with | [_], _ => rfl
  obtain ⟨fcontained_of, dcontained_of, acontained_of, Fcontained_of⟩ := X_contained_of
  have gcontained_of := PySem.W.mg_of X G acontained_of
  have bcontained_of : Binds K dcontained_of ["expression", "wanted"] [] := Fcontained_of.binds (ps := ["expression", "wanted"]) fun _ _ _ _ _ _ us hl => match us, hl with | [_, _], _ => rfl
  obtain ⟨fwith_contained_of, dwith_contained_of, awith_contained_of, Fwith_contained_of⟩ := X_with_contained_of
  have gwith_contained_of := PySem.W.mg_of X G awith_contained_of
  have bwith_contained_of : Binds K dwith_contained_of ["expression", "wanted", "parts"] [] := Fwith_contained_of.binds (ps := ["expression", "wanted", "parts"]) fun _ _ _ _ _ _ us hl => match us, hl with | [_, _, _], _ => rfl
  obtain ⟨ffolded, dfolded, afolded, Ffolded⟩ := X_folded
  have gfolded := PySem.W.mg_of X G afolded
  have bfolded : Binds K dfolded ["expression", "wanted", "made"] [] := Ffolded.binds (ps := ["expression", "wanted", "made"]) fun _ _ _ _ _ _ us hl => match us, hl with | [_, _, _], _ => rfl
  obtain ⟨fone_deeper, done_deeper, aone_deeper, Fone_deeper⟩ := X_one_deeper
  have gone_deeper := PySem.W.mg_of X G aone_deeper
  have bone_deeper : Binds K done_deeper ["expressions"] [] := Fone_deeper.binds (ps := ["expressions"]) fun _ _ _ _ _ _ us hl => match us, hl with | [_], _ => rfl
  obtain ⟨fall_parts, dall_parts, aall_parts, Fall_parts⟩ := X_all_parts
  have gall_parts := PySem.W.mg_of X G aall_parts
  have ball_parts : Binds K dall_parts ["expression"] [] := Fall_parts.binds (ps := ["expression"]) fun _ _ _ _ _ _ us hl => match us, hl with | [_], _ => rfl
  obtain ⟨frows_of, drows_of, arows_of, Frows_of⟩ := X_rows_of
  have grows_of := PySem.W.mg_of X G arows_of
  have brows_of : Binds K drows_of ["table"] [] := Frows_of.binds (ps := ["table"]) fun _ _ _ _ _ _ us hl => match us, hl with | [_], _ => rfl
  obtain ⟨fis_plain, dis_plain, ais_plain, Fis_plain⟩ := X_is_plain
  have gis_plain := PySem.W.mg_of X G ais_plain
  have bis_plain : Binds K dis_plain ["expression"] [] := Fis_plain.binds (ps := ["expression"]) fun _ _ _ _ _ _ us hl => match us, hl with | [_], _ => rfl
  obtain ⟨fis_plain_part, dis_plain_part, ais_plain_part, Fis_plain_part⟩ := X_is_plain_part
  have gis_plain_part := PySem.W.mg_of X G ais_plain_part
  have bis_plain_part : Binds K dis_plain_part ["part"] [] := Fis_plain_part.binds (ps := ["part"]) fun _ _ _ _ _ _ us hl => match us, hl with | [_], _ => rfl
  obtain ⟨fhas_free_key, dhas_free_key, ahas_free_key, Fhas_free_key⟩ := X_has_free_key
  have ghas_free_key := PySem.W.mg_of X G ahas_free_key
  have bhas_free_key : Binds K dhas_free_key ["expression"] [] := Fhas_free_key.binds (ps := ["expression"]) fun _ _ _ _ _ _ us hl => match us, hl with | [_], _ => rfl
  obtain ⟨fis_closed, dis_closed, ais_closed, Fis_closed⟩ := X_is_closed
  have gis_closed := PySem.W.mg_of X G ais_closed
  have bis_closed : Binds K dis_closed ["expression"] [] := Fis_closed.binds (ps := ["expression"]) fun _ _ _ _ _ _ us hl => match us, hl with | [_], _ => rfl
  obtain ⟨fis_simple, dis_simple, ais_simple, Fis_simple⟩ := X_is_simple
  have gis_simple := PySem.W.mg_of X G ais_simple
  have bis_simple : Binds K dis_simple ["expression"] [] := Fis_simple.binds (ps := ["expression"]) fun _ _ _ _ _ _ us hl => match us, hl with | [_], _ => rfl
  obtain ⟨fvariables_of, dvariables_of, avariables_of, Fvariables_of⟩ := X_variables_of
  have gvariables_of := PySem.W.mg_of X G avariables_of
  have bvariables_of : Binds K dvariables_of ["expression"] [] := Fvariables_of.binds (ps := ["expression"]) fun _ _ _ _ _ _ us hl => match us, hl with | [_], _ => rfl
  obtain ⟨fkeyed, dkeyed, akeyed, Fkeyed⟩ := X_keyed
  have gkeyed := PySem.W.mg_of X G akeyed
  have bkeyed : Binds K dkeyed ["expression", "other"] [] := Fkeyed.fun.binds (ps := ["expression", "other"]) fun _ _ _ _ _ _ us hl => match us, hl with | [_, _], _ => rfl
  obtain ⟨f_law_deck, d_law_deck, a_law_deck, F_law_deck⟩ := X_law_deck
  have g_law_deck := PySem.W.mg_of X G a_law_deck
  have b_law_deck : Binds K d_law_deck ["_law_script"] [] := F_law_deck.binds (ps := ["_law_script"]) fun _ _ _ _ _ _ us hl => match us, hl with | [_], _ => rfl
  obtain ⟨f_law_draw, d_law_draw, a_law_draw, F_law_draw⟩ := X_law_draw
  have g_law_draw := PySem.W.mg_of X G a_law_draw
  have b_law_draw : Binds K d_law_draw ["_law_deck_here", "_law_most"] [] := F_law_draw.binds (ps := ["_law_deck_here", "_law_most"]) fun _ _ _ _ _ _ us hl => match us, hl with | [_, _], _ => rfl
  obtain ⟨f_law_pick, d_law_pick, a_law_pick, F_law_pick⟩ := X_law_pick
  have g_law_pick := PySem.W.mg_of X G a_law_pick
  have b_law_pick : Binds K d_law_pick ["_law_deck_here", "_law_some"] [] := F_law_pick.binds (ps := ["_law_deck_here", "_law_some"]) fun _ _ _ _ _ _ us hl => match us, hl with | [_, _], _ => rfl
  obtain ⟨f_law_names, d_law_names, a_law_names, F_law_names⟩ := X_law_names
  have g_law_names := PySem.W.mg_of X G a_law_names
  have b_law_names : Binds K d_law_names ["_law_deck_here", "_law_many"] [] := F_law_names.binds (ps := ["_law_deck_here", "_law_many"]) fun _ _ _ _ _ _ us hl => match us, hl with | [_, _], _ => rfl
  obtain ⟨f_law_world, d_law_world, a_law_world, F_law_world⟩ := X_law_world
  have g_law_world := PySem.W.mg_of X G a_law_world
  have b_law_world : Binds K d_law_world ["_law_deck_here"] [] := F_law_world.binds (ps := ["_law_deck_here"]) fun _ _ _ _ _ _ us hl => match us, hl with | [_], _ => rfl
  obtain ⟨f_law_leaf, d_law_leaf, a_law_leaf, F_law_leaf⟩ := X_law_leaf
  have g_law_leaf := PySem.W.mg_of X G a_law_leaf
  have b_law_leaf : Binds K d_law_leaf ["_law_deck_here", "_law_world_here"] [] := F_law_leaf.binds (ps := ["_law_deck_here", "_law_world_here"]) fun _ _ _ _ _ _ us hl => match us, hl with | [_, _], _ => rfl
  obtain ⟨f_law_rows, d_law_rows, a_law_rows, F_law_rows⟩ := X_law_rows
  have g_law_rows := PySem.W.mg_of X G a_law_rows
  have b_law_rows : Binds K d_law_rows ["_law_deck_here", "_law_world_here", "_law_deep", "_law_inside"] [] := F_law_rows.binds (ps := ["_law_deck_here", "_law_world_here", "_law_deep", "_law_inside"]) fun _ _ _ _ _ _ us hl => match us, hl with | [_, _, _, _], _ => rfl
  obtain ⟨f_law_term, d_law_term, a_law_term, F_law_term⟩ := X_law_term
  have g_law_term := PySem.W.mg_of X G a_law_term
  have b_law_term : Binds K d_law_term ["_law_deck_here", "_law_world_here", "_law_deep", "_law_inside"] [] := F_law_term.binds (ps := ["_law_deck_here", "_law_world_here", "_law_deep", "_law_inside"]) fun _ _ _ _ _ _ us hl => match us, hl with | [_, _, _, _], _ => rfl
  obtain ⟨f_law_within, d_law_within, a_law_within, F_law_within⟩ := X_law_within
  have g_law_within := PySem.W.mg_of X G a_law_within
  have b_law_within : Binds K d_law_within ["_law_thing"] [] := F_law_within.binds (ps := ["_law_thing"]) fun _ _ _ _ _ _ us hl => match us, hl with | [_], _ => rfl
  obtain ⟨f_law_look, d_law_look, a_law_look, F_law_look⟩ := X_law_look
  have g_law_look := PySem.W.mg_of X G a_law_look
  have b_law_look : Binds K d_law_look ["_law_thing"] [] := F_law_look.binds (ps := ["_law_thing"]) fun _ _ _ _ _ _ us hl => match us, hl with | [_], _ => rfl
  obtain ⟨f_law_put, d_law_put, a_law_put, F_law_put⟩ := X_law_put
  have g_law_put := PySem.W.mg_of X G a_law_put
  have b_law_put : Binds K d_law_put ["_law_thing", "_law_other", "_law_bound"] [] := F_law_put.binds (ps := ["_law_thing", "_law_other", "_law_bound"]) fun _ _ _ _ _ _ us hl => match us, hl with | [_, _, _], _ => rfl
  obtain ⟨f_law_closed, d_law_closed, a_law_closed, F_law_closed⟩ := X_law_closed
  have g_law_closed := PySem.W.mg_of X G a_law_closed
  have b_law_closed : Binds K d_law_closed ["_law_deck_here"] [] := F_law_closed.binds (ps := ["_law_deck_here"]) fun _ _ _ _ _ _ us hl => match us, hl with | [_], _ => rfl
  obtain ⟨f_law_by_hand, d_law_by_hand, a_law_by_hand, F_law_by_hand⟩ := X_law_by_hand
  have g_law_by_hand := PySem.W.mg_of X G a_law_by_hand
  have b_law_by_hand : Binds K d_law_by_hand [] [] := F_law_by_hand.binds (ps := []) fun _ _ _ _ _ _ us hl => match us, hl with | [], _ => rfl
  obtain ⟨f_law_right, d_law_right, a_law_right, F_law_right⟩ := X_law_right
  have g_law_right := PySem.W.mg_of X G a_law_right
  have b_law_right : Binds K d_law_right ["_law_thing", "_law_other"] [] := F_law_right.binds (ps := ["_law_thing", "_law_other"]) fun _ _ _ _ _ _ us hl => match us, hl with | [_, _], _ => rfl
  obtain ⟨f_law0, d_law0, a_law0, F_law0⟩ := X_law
  have e := hfa.symm.trans (PySem.W.mg_of X G a_law0)
  cases e
  have mlist := PySem.W.mg_none_of X G z_list
  have msum := PySem.W.mg_none_of X G z_sum
  have mlen := PySem.W.mg_none_of X G z_len
  have mrange := PySem.W.mg_none_of X G z_range
  have mint := PySem.W.mg_none_of X G z_int
  have mrepr := PySem.W.mg_none_of X G z_repr
  have mtuple := PySem.W.mg_none_of X G z_tuple
  have mzip := PySem.W.mg_none_of X G z_zip
  have msorted := PySem.W.mg_none_of X G z_sorted
  have mall := PySem.W.mg_none_of X G z_all
  have mFIELDS := PySem.W.mg_of X G z_FIELDS
  have mAGG := PySem.W.mg_of X G z_AGG
  have mALL := PySem.W.mg_of X G z_ALL
  obtain ⟨oc, od, kV, doc, pm, an, cdv, ct, osl, hfd, _, _⟩ := F_law0.ex
  refine ⟨d_law0, fun s v => ?_, fun base _ _ TB => ?_⟩
  · subst hfd
    exact .of_eq rfl
  · have Gdraw := ok_draw (P := P) (w := w) (mg := mg) (base := base) (k := 0) F_law_draw
    have Gpick := ok_pick (k := 1) F_law_pick Gdraw g_law_draw F_law_draw.kp b_law_draw mlen
    have Gnames := ok_names (k := 2) F_law_names (Gdraw.mono (by decide)) g_law_draw F_law_draw.kp b_law_draw Gpick g_law_pick F_law_pick.kp b_law_pick mrange mlen
    have Gworld := ok_world (k := 3) F_law_world (Gdraw.mono (by decide)) g_law_draw F_law_draw.kp b_law_draw (Gpick.mono (by decide)) g_law_pick F_law_pick.kp b_law_pick Gnames g_law_names F_law_names.kp b_law_names
    have Gdeck := ok_deck (P := P) (w := w) (mg := mg) (base := base) (k := 0) F_law_deck mlist msum mlen
    have Gleaf := ok_leaf (k := 2) F_law_leaf (Gdraw.mono (by decide)) g_law_draw F_law_draw.kp b_law_draw Gpick g_law_pick F_law_pick.kp b_law_pick
    have Gterm := ok_terms (k := 3) F_law_term F_law_rows (Gdraw.mono (by decide)) g_law_draw F_law_draw.kp b_law_draw (Gpick.mono (by decide)) g_law_pick F_law_pick.kp b_law_pick Gleaf g_law_leaf F_law_leaf.kp b_law_leaf g_law_rows F_law_rows.kp b_law_rows g_law_term F_law_term.kp b_law_term mrange mtuple 5
    have Gof := ok_contained_of (P := P) (w := w) (mg := mg) (base := base) (k := 0) Fcontained_of mFIELDS T_FIELDS mzip
    have Gcon := ok_contained (k := 1) Fcontained Gof gcontained_of Fcontained_of.kp bcontained_of mALL T_ALL
    have Gfree := ok_contained_free (k := 1) Fcontained_free Gof gcontained_of Fcontained_of.kp bcontained_of
    have Gone := ok_one_deeper (k := 2) Fone_deeper Gcon gcontained Fcontained.kp bcontained
    have Gall := ok_all_parts (k := 3) Fall_parts Gone gone_deeper Fone_deeper.kp bone_deeper
    have Gvars := ok_variables_of (k := 4) Fvariables_of Gall gall_parts Fall_parts.kp ball_parts msorted mtuple
    have Grows := ok_rows_of (P := P) (w := w) (mg := mg) (base := base) (k := 0) Frows_of
    have Gpp := ok_is_plain_part (k := 1) Fis_plain_part Grows grows_of Frows_of.kp brows_of mAGG T_AGG
    have Gplain := ok_is_plain (k := 4) Fis_plain Gall gall_parts Fall_parts.kp ball_parts (Gpp.mono (by decide)) gis_plain_part Fis_plain_part.kp bis_plain_part mall
    have Gsimple := ok_is_simple (k := 4) Fis_simple Gall gall_parts Fall_parts.kp ball_parts mAGG T_AGG mall
    have Ghas := ok_has_free_key (k := 2) Fhas_free_key Gfree gcontained_free Fcontained_free.kp bcontained_free
    have Gclosed := ok_is_closed (k := 5) Fis_closed Gvars gvariables_of Fvariables_of.kp bvariables_of (Ghas.mono (by decide)) ghas_free_key Fhas_free_key.kp bhas_free_key
    have TBK := TB (cK, PK) List.mem_cons_self
    have hmK : ((PK, Fo.nmK) : NdefX.NTab) ∈ TTs PK := List.mem_cons_self
    have huK : ∀ p ∈ TTs PK, p.1 = PK → p.2 = Fo.nmK := fun p hp e => by rw [List.mem_singleton.mp hp]
    have Gwith := Fo.ok_with (P := P) (w := w) (mg := mg) (base := base) (k := 0) Fwith_contained_of mFIELDS T_FIELDS mzip mtuple mlen
    have GfK := fun (o : PyData) (ho : flatD o = true) => Fo.ok_folded (j := 2) (k := 2) Ffolded (Fo.mkOkK (K := K) ho) (Fo.nok_mK (k := 1) ho Gwith gwith_contained_of Fwith_contained_of.kp bwith_contained_of trivial) (Nat.le_refl _) (Gof.mono (by decide)) gcontained_of Fcontained_of.kp bcontained_of mlen
    have Gkeyed := keyed_imp (Fo.ok_keyed (k := 3) Fkeyed TBK hmK huK GfK gfolded Ffolded.kp bfolded)
    have Gwithin := ok_within (P := P) (w := w) (mg := mg) (base := base) (k := 0) F_law_within mlen mint
    have Gput := ok_puts (k := 1) F_law_put Gwithin g_law_within F_law_within.kp b_law_within g_law_put F_law_put.kp b_law_put mlen mtuple 7
    have Glook := ok_look (k := 1) F_law_look Gwithin g_law_within F_law_within.kp b_law_within mlen
    have Glc := ok_closed (k := 2) F_law_closed (Gdraw.mono (by decide)) g_law_draw F_law_draw.kp b_law_draw Gpick g_law_pick F_law_pick.kp b_law_pick
    have Ghand := ok_hand (P := P) (w := w) (mg := mg) (base := base) (k := 0) F_law_by_hand mrange mint mtuple
    have Gright := ok_right (k := 8) F_law_right (Glook.mono (by decide)) g_law_look F_law_look.kp b_law_look (Gplain.mono (by decide)) gis_plain Fis_plain.kp bis_plain (Gclosed.mono (by decide)) gis_closed Fis_closed.kp bis_closed (Gsimple.mono (by decide)) gis_simple Fis_simple.kp bis_simple Gput g_law_put F_law_put.kp b_law_put (Gkeyed.mono (by decide)) gkeyed Fkeyed.kp bkeyed mrepr
    exact ok_law (k := 14) F_law0 (Gdeck.mono (by decide)) g_law_deck F_law_deck.kp b_law_deck (Gworld.mono (by decide)) g_law_world F_law_world.kp b_law_world Gterm g_law_term F_law_term.kp b_law_term (Ghand.mono (by decide)) g_law_by_hand F_law_by_hand.kp b_law_by_hand (Gright.mono (by decide)) g_law_right F_law_right.kp b_law_right (Glc.mono (by decide)) g_law_closed F_law_closed.kp b_law_closed mrange
end K6
open PySem PySem.W PyProof.Rows
set_option maxHeartbeats 0 in
theorem PySem.Challenge.cw_lookdone_k06_plain_closed_simple_keyed_holds : PySem.Challenge.rw_lookdone_k06_plain_closed_simple_keyed.Holds := by
  w_on; o_law; k_head; (case hw => w_witness2)
  k_fill
  refine GR.walk_gt (l := PySem.Challenge.rw_lookdone_k06_plain_closed_simple_keyed) (n := 63) (k := 15) (x := "_law_script") (cs := [(127, 123)]) (sp := fun K => K6.sp_law K (K6.TTs 123)) rfl (by decide) rfl ⟨rfl, by decide, by decide⟩ (fun w h Y => PySem.W.km_in_of Y) (fun w h Y => K6.tabs1 (PySem.W.km_tabs_of Y 123 (by decide))) ?nT ?hC ?F (fun _ H a ns hl ht hS => ⟨a, ns, rfl, hS, K6.tts_mk ht, fun _ => rfl⟩)
  case nT => exact fun w => K6.all1 (by kernel_rfl)
  case hC => exact fun w => K6.all1 (by kernel_rfl)
  case F =>
    intro w mg fa h KX G hmg
    refine' K6.all_mk (cK := 127) (PK := 123) KX G hmg (K6.has_mk ?a_contained ?l_contained ?c_contained ?k_contained) (K6.has_mk ?a_contained_free ?l_contained_free ?c_contained_free ?k_contained_free) (K6.has_mk ?a_contained_of ?l_contained_of ?c_contained_of ?k_contained_of) (K6.has_mk ?a_with_contained_of ?l_with_contained_of ?c_with_contained_of ?k_with_contained_of) (K6.has_mk ?a_folded ?l_folded ?c_folded ?k_folded) (K6.has_mk ?a_one_deeper ?l_one_deeper ?c_one_deeper ?k_one_deeper) (K6.has_mk ?a_all_parts ?l_all_parts ?c_all_parts ?k_all_parts) (K6.has_mk ?a_rows_of ?l_rows_of ?c_rows_of ?k_rows_of) (K6.has_mk ?a_is_plain ?l_is_plain ?c_is_plain ?k_is_plain) (K6.has_mk ?a_is_plain_part ?l_is_plain_part ?c_is_plain_part ?k_is_plain_part) (K6.has_mk ?a_has_free_key ?l_has_free_key ?c_has_free_key ?k_has_free_key) (K6.has_mk ?a_is_closed ?l_is_closed ?c_is_closed ?k_is_closed) (K6.has_mk ?a_is_simple ?l_is_simple ?c_is_simple ?k_is_simple) (K6.has_mk ?a_variables_of ?l_variables_of ?c_variables_of ?k_variables_of) (K6.has_mkC ?a_keyed ?l_keyed ?c_keyed ?k_keyed) (K6.has_mk ?a_law_deck ?l_law_deck ?c_law_deck ?k_law_deck) (K6.has_mk ?a_law_draw ?l_law_draw ?c_law_draw ?k_law_draw) (K6.has_mk ?a_law_pick ?l_law_pick ?c_law_pick ?k_law_pick) (K6.has_mk ?a_law_names ?l_law_names ?c_law_names ?k_law_names) (K6.has_mk ?a_law_world ?l_law_world ?c_law_world ?k_law_world) (K6.has_mk ?a_law_leaf ?l_law_leaf ?c_law_leaf ?k_law_leaf) (K6.has_mk ?a_law_rows ?l_law_rows ?c_law_rows ?k_law_rows) (K6.has_mk ?a_law_term ?l_law_term ?c_law_term ?k_law_term) (K6.has_mk ?a_law_within ?l_law_within ?c_law_within ?k_law_within) (K6.has_mk ?a_law_look ?l_law_look ?c_law_look ?k_law_look) (K6.has_mk ?a_law_put ?l_law_put ?c_law_put ?k_law_put) (K6.has_mk ?a_law_closed ?l_law_closed ?c_law_closed ?k_law_closed) (K6.has_mk ?a_law_by_hand ?l_law_by_hand ?c_law_by_hand ?k_law_by_hand) (K6.has_mk ?a_law_right ?l_law_right ?c_law_right ?k_law_right) (K6.has_mk ?a_law ?l_law ?c_law ?k_law) ?z_list ?z_sum ?z_len ?z_range ?z_int ?z_repr ?z_tuple ?z_zip ?z_sorted ?z_all ?z_FIELDS (K6.flds_mk ?l_F ?kl_F ?q_0 (K6.ktx_mk ?l_0 ?v_0 (by decide)) ?q_1 (K6.ktx_mk ?l_1 ?v_1 (by decide)) ?q_2 (K6.ktx_mk ?l_2 ?v_2 (by decide)) ?q_3 (K6.ktx_mk ?l_3 ?v_3 (by decide)) ?q_4 (K6.ktx_mk ?l_4 ?v_4 (by decide)) ?q_5 (K6.ktx_mk ?l_5 ?v_5 (by decide)) ?q_6 (K6.ktx_mk ?l_6 ?v_6 (by decide)) ?q_7 (K6.ktx_mk ?l_7 ?v_7 (by decide)) ?q_8 (K6.ktx_mk ?l_8 ?v_8 (by decide)) ?q_9 (K6.ktx_mk ?l_9 ?v_9 (by decide)) ?q_10 (K6.ktx_mk ?l_10 ?v_10 (by decide)) ?q_11 (K6.ktx_mk ?l_11 ?v_11 (by decide)) ?q_12 (K6.ktx_mk ?l_12 ?v_12 (by decide)) ?q_13 (K6.ktx_mk ?l_13 ?v_13 (by decide)) ?q_14 (K6.ktx_mk ?l_14 ?v_14 (by decide)) ?q_15 (K6.ktx_mk ?l_15 ?v_15 (by decide))) ?z_ALL (K6.ktx_mk (fs := ["free", "bound"]) ?l_P ?v_P (by decide)) ?z_AGG (K6.ktx_mk (fs := ["count", "sum", "most", "first"]) ?l_A ?v_A (by decide))
    (case a_contained => k_is)
    (case l_contained => k_is)
    (case c_contained => k_is)
    (case k_contained => k_is)
    (case a_contained_free => k_is)
    (case l_contained_free => k_is)
    (case c_contained_free => k_is)
    (case k_contained_free => k_is)
    (case a_contained_of => k_is)
    (case l_contained_of => k_is)
    (case c_contained_of => k_is)
    (case k_contained_of => k_is)
    (case a_with_contained_of => k_is)
    (case l_with_contained_of => k_is)
    (case c_with_contained_of => k_is)
    (case k_with_contained_of => k_is)
    (case a_folded => k_is)
    (case l_folded => k_is)
    (case c_folded => k_is)
    (case k_folded => k_is)
    (case a_one_deeper => k_is)
    (case l_one_deeper => k_is)
    (case c_one_deeper => k_is)
    (case k_one_deeper => k_is)
    (case a_all_parts => k_is)
    (case l_all_parts => k_is)
    (case c_all_parts => k_is)
    (case k_all_parts => k_is)
    (case a_rows_of => k_is)
    (case l_rows_of => k_is)
    (case c_rows_of => k_is)
    (case k_rows_of => k_is)
    (case a_is_plain => k_is)
    (case l_is_plain => k_is)
    (case c_is_plain => k_is)
    (case k_is_plain => k_is)
    (case a_is_plain_part => k_is)
    (case l_is_plain_part => k_is)
    (case c_is_plain_part => k_is)
    (case k_is_plain_part => k_is)
    (case a_has_free_key => k_is)
    (case l_has_free_key => k_is)
    (case c_has_free_key => k_is)
    (case k_has_free_key => k_is)
    (case a_is_closed => k_is)
    (case l_is_closed => k_is)
    (case c_is_closed => k_is)
    (case k_is_closed => k_is)
    (case a_is_simple => k_is)
    (case l_is_simple => k_is)
    (case c_is_simple => k_is)
    (case k_is_simple => k_is)
    (case a_variables_of => k_is)
    (case l_variables_of => k_is)
    (case c_variables_of => k_is)
    (case k_variables_of => k_is)
    (case a_keyed => k_is)
    (case l_keyed => k_is)
    (case c_keyed => k_is)
    (case k_keyed => k_is)
    (case a_law_deck => k_is)
    (case l_law_deck => k_is)
    (case c_law_deck => k_is)
    (case k_law_deck => k_is)
    (case a_law_draw => k_is)
    (case l_law_draw => k_is)
    (case c_law_draw => k_is)
    (case k_law_draw => k_is)
    (case a_law_pick => k_is)
    (case l_law_pick => k_is)
    (case c_law_pick => k_is)
    (case k_law_pick => k_is)
    (case a_law_names => k_is)
    (case l_law_names => k_is)
    (case c_law_names => k_is)
    (case k_law_names => k_is)
    (case a_law_world => k_is)
    (case l_law_world => k_is)
    (case c_law_world => k_is)
    (case k_law_world => k_is)
    (case a_law_leaf => k_is)
    (case l_law_leaf => k_is)
    (case c_law_leaf => k_is)
    (case k_law_leaf => k_is)
    (case a_law_rows => k_is)
    (case l_law_rows => k_is)
    (case c_law_rows => k_is)
    (case k_law_rows => k_is)
    (case a_law_term => k_is)
    (case l_law_term => k_is)
    (case c_law_term => k_is)
    (case k_law_term => k_is)
    (case a_law_within => k_is)
    (case l_law_within => k_is)
    (case c_law_within => k_is)
    (case k_law_within => k_is)
    (case a_law_look => k_is)
    (case l_law_look => k_is)
    (case c_law_look => k_is)
    (case k_law_look => k_is)
    (case a_law_put => k_is)
    (case l_law_put => k_is)
    (case c_law_put => k_is)
    (case k_law_put => k_is)
    (case a_law_closed => k_is)
    (case l_law_closed => k_is)
    (case c_law_closed => k_is)
    (case k_law_closed => k_is)
    (case a_law_by_hand => k_is)
    (case l_law_by_hand => k_is)
    (case c_law_by_hand => k_is)
    (case k_law_by_hand => k_is)
    (case a_law_right => k_is)
    (case l_law_right => k_is)
    (case c_law_right => k_is)
    (case k_law_right => k_is)
    (case a_law => k_is)
    (case l_law => k_is)
    (case c_law => k_is)
    (case k_law => k_is)
    (case z_list => k_is)
    (case z_sum => k_is)
    (case z_len => k_is)
    (case z_range => k_is)
    (case z_int => k_is)
    (case z_repr => k_is)
    (case z_tuple => k_is)
    (case z_zip => k_is)
    (case z_sorted => k_is)
    (case z_all => k_is)
    (case z_FIELDS => k_is)
    (case l_F => k_is)
    (case kl_F => k_keys)
    (case q_0 => k_is)
    (case l_0 => k_is)
    (case v_0 => repeat (first | exact .nil | refine .cons ⟨_, rfl⟩ ?_))
    (case q_1 => k_is)
    (case l_1 => k_is)
    (case v_1 => repeat (first | exact .nil | refine .cons ⟨_, rfl⟩ ?_))
    (case q_2 => k_is)
    (case l_2 => k_is)
    (case v_2 => repeat (first | exact .nil | refine .cons ⟨_, rfl⟩ ?_))
    (case q_3 => k_is)
    (case l_3 => k_is)
    (case v_3 => repeat (first | exact .nil | refine .cons ⟨_, rfl⟩ ?_))
    (case q_4 => k_is)
    (case l_4 => k_is)
    (case v_4 => repeat (first | exact .nil | refine .cons ⟨_, rfl⟩ ?_))
    (case q_5 => k_is)
    (case l_5 => k_is)
    (case v_5 => repeat (first | exact .nil | refine .cons ⟨_, rfl⟩ ?_))
    (case q_6 => k_is)
    (case l_6 => k_is)
    (case v_6 => repeat (first | exact .nil | refine .cons ⟨_, rfl⟩ ?_))
    (case q_7 => k_is)
    (case l_7 => k_is)
    (case v_7 => repeat (first | exact .nil | refine .cons ⟨_, rfl⟩ ?_))
    (case q_8 => k_is)
    (case l_8 => k_is)
    (case v_8 => repeat (first | exact .nil | refine .cons ⟨_, rfl⟩ ?_))
    (case q_9 => k_is)
    (case l_9 => k_is)
    (case v_9 => repeat (first | exact .nil | refine .cons ⟨_, rfl⟩ ?_))
    (case q_10 => k_is)
    (case l_10 => k_is)
    (case v_10 => repeat (first | exact .nil | refine .cons ⟨_, rfl⟩ ?_))
    (case q_11 => k_is)
    (case l_11 => k_is)
    (case v_11 => repeat (first | exact .nil | refine .cons ⟨_, rfl⟩ ?_))
    (case q_12 => k_is)
    (case l_12 => k_is)
    (case v_12 => repeat (first | exact .nil | refine .cons ⟨_, rfl⟩ ?_))
    (case q_13 => k_is)
    (case l_13 => k_is)
    (case v_13 => repeat (first | exact .nil | refine .cons ⟨_, rfl⟩ ?_))
    (case q_14 => k_is)
    (case l_14 => k_is)
    (case v_14 => repeat (first | exact .nil | refine .cons ⟨_, rfl⟩ ?_))
    (case q_15 => k_is)
    (case l_15 => k_is)
    (case v_15 => repeat (first | exact .nil | refine .cons ⟨_, rfl⟩ ?_))
    (case z_ALL => k_is)
    (case l_P => k_is)
    (case v_P => repeat (first | exact .nil | refine .cons ⟨_, rfl⟩ ?_))
    (case z_AGG => k_is)
    (case l_A => k_is)
    (case v_A => repeat (first | exact .nil | refine .cons ⟨_, rfl⟩ ?_))
