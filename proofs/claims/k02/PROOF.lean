import PyProof.Rows.All
import Wide.All
import OpenK.AllK
import Wide.FinOn
import HandS.ForMost
import PyProof.ReprRoads
import HandS.Wide
import HandS.Style
import HandS.Evl
import HandS.Conv
import PySem.Challenge.RW_lookdone_k02_spans_by_all_pairs_of_value
set_option Elab.async false
set_option linter.all false
set_option maxRecDepth 100000
set_option maxHeartbeats 4000000
namespace GR
open PySem PySem.Spec PyProof.Rows L2

/-! ### data that stands in the abstract heap -/
section
variable {X : Cx} {pins : List (Addr × Obj)} {σ : L2.St} {H : Hp} {s : Shared}
mutual
theorem nodict {K : PySem.W.Frag} : ∀ {v : V} {d : PyData}, Dp K H v d → d.hasDict = false
  | _, _, .non => by simp only [PyData.hasDict]
  | _, _, .bl b => by simp only [PyData.hasDict]
  | _, _, .int i => by simp only [PyData.hasDict]
  | _, _, .str x => by simp only [PyData.hasDict]
  | _, _, .lst _ q => by simp only [PyData.hasDict, nodicts q]
  | _, _, .tup _ q => by simp only [PyData.hasDict, nodicts q]
theorem nodicts {K : PySem.W.Frag} : ∀ {vs : List V} {ds : List PyData}, DpAll K H vs ds → PyData.hasDictAll ds = false
  | _, _, .nil => by simp only [PyData.hasDictAll]
  | _, _, .cons h q => by simp only [PyData.hasDictAll, nodict h, nodicts q, Bool.or_self]
end

/-- repr of a list or a tuple of data -/
def rRepr (X : Cx) : List V → Hp → VK → Prop := fun xs H Q => ∃ (a : Addr) (d : PyData), xs = [.ref a] ∧ Dp X.K H (.ref a) d ∧ d.showable = true ∧ d.depth ≤ 60 ∧ d.shown.length ≤ sizeLine ∧ Q (.str d.shown) H
theorem call_reprD {k : Nat} (hg : X.A.guards = some []) (hr : Room k X.A) : CallR X (.builtin "repr") (rRepr X) := by
  intro pins s σ H xs us Q I r h
  obtain ⟨a, d, rfl, hd, hs, hdep, hz, q⟩ := h
  obtain ⟨u, rfl, rv⟩ := vals1 r
  obtain rfl : u = Value.ref a := rv
  obtain ⟨as, hR⟩ := Dp.reads I d _ _ hd rfl
  have hu := hr.units
  exact repr_of_reads' hR hs (PyData.noDict_hsm (nodict hd)) hg (by omega) (fun _ _ e => e) (fun h' u tk hk => ⟨.str d.shown, H, I.kept hk, ⟨_, rfl⟩, q⟩) hz
end

/-! ### defs that show things: a promise kept wherever nothing is being shown -/
structure FnG (P : Program) (w : World) (K : PySem.W.Frag) (mg : Str → Option Value) (base : Heap) (CX : CXT) (k : Nat) (f : Addr) (fd : FuncData) (ps : List Str) (sp : Sp) : Prop where
  size : ∀ vs H Q E, sp vs H Q E → vs.length = ps.length
  go : ∀ (A : Around) (outer : List Env) (s : Shared) (H : Hp) (args : Args) (us : List Value) (vs : List V) (Q : VK) (E : XK),
    A.guards = some [] → Room k A → Env0 P w K mg base A outer s H → BindsTo s fd args (ps.zip us) → Vals vs us → sp vs H Q E →
    codeAny (model P w) A (.call (.ref f) args) (CR CX outer P w H s Q E) s

section
variable {P : Program} {w : World} {K : PySem.W.Frag} {mg : Str → Option Value} {base : Heap}
theorem FnG.of {CX : CXT} {k : Nat} {f : Addr} {fd : FuncData} {ps : List Str} {sp : Sp} (F : FnOk P w K mg base CX k f fd ps sp) : FnG P w K mg base CX k f fd ps sp :=
  ⟨F.len, fun A outer s H args us vs Q E _ => F.run A outer s H args us vs Q E⟩

/-- a def by its body, where nothing is being shown -/
theorem ok_g {x qual : Str} {st : Stmt} {f : Addr} {fd : FuncData} {N ps : List Str} {k : Nat} {sp : Sp} (F : Fun K x qual st f fd) (S : FnScope N ps (defScope st)) (size : ∀ vs H Q E, sp vs H Q E → vs.length = ps.length)
    (body : ∀ (cdv : Value) (A : Around) (outer : List Env) (s : Shared) (H : Hp) (vs : List V) (Q : VK) (E : XK), A.guards = some [] → Room k (A.deeper (envOfC qual (defScope st) s.heap.objs.size f cdv)) → sp vs H Q E →
      ∃ t, PSs (cxOf CX0 P w K mg base N qual (defScope st) f cdv A outer s H E).nox (defBody st) t ∧ t { nx := fun _ H' => Q .non H', rt := Q } (start N vs) H) : FnG P w K mg base CX0 (k + 1) f fd ps sp := by
  obtain ⟨oc, od, kV, doc, pm, an, cdv, ct, osl, rfl, lk, hcd⟩ := F.ex
  constructor
  · exact size
  intro A outer s H args us vs Q E gA room e0 bnd rel hsp
  have inK : K.In s.heap := e0.mod.kin.keeps (fun b o q => (e0.bs b o q).1)
  have nolim := e0.mod.nolimit.keeps (fun b o q => (e0.bs b o q).1)
  obtain ⟨t, ht, hq⟩ := body cdv A outer s H vs Q E gA (room.deeper _) hsp
  refine codeAny_call_function room.depth (inK f _ lk) rfl S.co S.gen rfl (PySem.W.codeRec_of inK hcd) (bnd _ _ _ _ ?_)
  refine wpAny_newFunctionEnv_cells S.kind ?par (fun env he s1 inC => ?run)
  case par =>
    rintro ⟨n, v⟩ hy
    rcases S.par n (List.of_mem_zip hy).1 with q | q
    · exact Or.inl q
    · exact Or.inr ⟨q, PySem.W.cellsFrom_some _ _ _ (Or.inl q)⟩
  case run =>
    cases he
    refine And.intro (nolim.keeps inC.toInCall.keep) (codeAny_func ?_)
    have I0 := inv_start (CX := CX0) (P := P) (w := w) (K := K) (mg := mg) (base := base) (E := E) S room.hd e0 (size _ _ _ _ hsp) rel inC
    refine wpAny_mono (ht.nox.run [] s1 (start N vs) H _ I0 hq) ?_ (fun _ _ z => z)
    rintro fl s' hs
    have close : ∀ (σ' : L2.St) (H' : Hp) (v : V) (u : Value), Inv (cxOf CX0 P w K mg base N qual (defScope st) f cdv A outer s H E) [] σ' H' s' → RelV v u → Q v H' → CE outer P w H s Q u s' := by
      intro σ' H' v u J rv q
      exact ⟨v, H', J.os, J.bare, J.base, J.hok, rv, q⟩
    cases fl
    case ret u => obtain ⟨v, σ', H', J, rv, q⟩ := hs; exact close _ _ _ _ J rv q
    case next => obtain ⟨σ', H', J, q⟩ := hs; exact close _ _ V.non Value.none J rfl q
    case brk => obtain ⟨_, _, _, q⟩ := hs; exact q.elim
    case cont => obtain ⟨_, _, _, q⟩ := hs; exact q.elim
end

section
variable {X : Cx} {CX : CXT} {k : Nat} {f : Addr} {fd : FuncData} {ps : List Str} {sp : Sp} {E : XK} {x : Str} {p pos : Pos} {e : Expr} {es : List Expr} {t : TA}
/-- its call -/
theorem pe_callG (F : FnG X.prog X.w X.K X.mg X.base CX k f fd ps sp) (hg : X.A.guards = some []) (hr : Room k X.A) (gx : Gl X x) (hm : X.mg x = some (.ref f)) (hk : PySem.W.keepIn X.K (.ref f) = true) (hb : Binds X.K fd ps []) (hx : Passes CX X E)
    (ha : PA X (e :: es) t) (hdb : (x == ("__debug__" : Str)) = false := by decide) (he : starEach (e :: es) X.env = (false, eval e X.env) :: starEach es X.env := by rfl) (hpl : (backTo pos (starEach es X.env)).any (·.1) = false := by rfl) :
    PE X (.Call (.Name x p) (e :: es) [] pos) (tCall sp [] E t) := by
  constructor
  intro pins s σ H Q I h
  refine wpAny_Call_Name_kw (ld_glob I gx hm (PySem.W.callWith_K (h₀ := X.base) I.ok.mod.kin hk (thn (ha.run pos pins s σ H _ I h) ?_) he hpl) hdb)
  rintro us s1 ⟨vs, H1, I1, r, q⟩
  refine ⟨I1.kIn, ?_⟩
  have q' : sp vs H1 Q E := by simpa using q
  have hl : us.length = ps.length := by
    rw [← r.length]
    exact F.size _ _ _ _ q'
  have hB := hb s1 us I1.kIn (by simpa using hl)
  rw [List.append_nil] at hB
  refine wpAny_call (codeAny_mono (F.go X.A X.stack s1 H1 ⟨us, []⟩ us vs Q E hg hr I1.env0 hB r q') ?_)
  rintro (er | fl) s2 hq
  · exact hx pins σ H1 s1 er s2 I1 hq
  · cases fl
    case ret u => exact I1.after hq
    case next => exact hq.elim
    case brk => exact hq.elim
    case cont => exact hq.elim
end

/-- a comprehension without a test -/
theorem yes_then {σ : L2.St} {H : Hp} {A B : Hp → Prop} (h : A H) : tYes σ H (fun b H3 => if b = true then A H3 else B H3) := by
  show (if true = true then A H else B H)
  rw [if_pos rfl]
  exact h

/-! ### the law's own call -/
/-- the abstract heap in which the script alone is tracked, as it stands -/
def scriptHp (a : Addr) (o : Obj) (xs : List V) : Hp := fun b => if b = a then some (.frz o (.lst xs)) else none
theorem scriptHp_at {a : Addr} {o : Obj} {xs : List V} : scriptHp a o xs a = some (.frz o (.lst xs)) := if_pos rfl
theorem scriptHp_some {a b : Addr} {o : Obj} {xs : List V} {u : HO} (h : scriptHp a o xs b = some u) : b = a ∧ u = .frz o (.lst xs) := by
  unfold scriptHp at h
  split at h
  · rename_i e
    exact ⟨e, (Option.some.inj h).symm⟩
  · cases h

theorem ns_hid {h : Heap} {H : Hp} {b : Addr} {m : Str → Option Value} (q : h.Ns b m) (hb : H b = none) : (hidT h H).Ns b m := by
  obtain ⟨o, es, ep, e, r⟩ := q
  exact ⟨o, es, ep, hidT_get e hb, r⟩

theorem law_callG {P : Program} {w : World} {K : PySem.W.Frag} {mg mb : Str → Option Value} {k : Nat} {fa a : Addr} {fd : FuncData} {x : Str} {sp : Sp} {s₁ : Shared} {vs : List Value} {ns : List Int}
    (KX : K.In s₁.heap) (hns : s₁.heap.Ns mainGlobals mg) (hb : s₁.heap.Ns builtinsNs mb) (hbb : ∀ x : Str, x ≠ "__name__" → mb x = bootBuiltins x) (hlim : s₁.heap.NoLimit) (hg : s₁.gens = #[])
    (ha : s₁.heap.get? a = some { cls := .type "list", data := .seq vs.toArray }) (hi : IntsAre vs ns) (hl : ns.length ≤ sizeLine) (hr : Room k callerA)
    (F : ∀ base : Heap, K.In base → base.Ns mainGlobals mg → FnG P w K mg base CX0 k fa fd [x] sp) (hbind : ∀ (s : Shared) (u : Value), BindsTo s fd ⟨[u], []⟩ [(x, u)])
    (hsp : ∀ H : Hp, Only H → SqL K H a (ns.map V.int) → sp [.ref a] H (fun v _ => v = .bl true) fun _ _ _ => False) :
    codeAny (model P w) callerA (.call (.ref fa) ⟨[.ref a], []⟩) (fun r s' => r = .ok (.ret (.bool true)) ∧ OldK s₁.heap s'.heap ∧ s'.os = s₁.os ∧ AllBare s'.gens) s₁ := by
  have main : ∀ H : Hp, Only H → SqL K H a (ns.map V.int) → HOk P w H s₁.heap → (∀ b u, H b = some u → b = a ∧ K.lookup a = none) →
      codeAny (model P w) callerA (.call (.ref fa) ⟨[.ref a], []⟩) (fun r s' => r = .ok (.ret (.bool true)) ∧ OldK s₁.heap s'.heap ∧ s'.os = s₁.os ∧ AllBare s'.gens) s₁ := by
    intro H only seq ok one
    have free : ∀ b, (∀ o n, s₁.heap.get? b = some o → o.data ≠ .seq vs.toArray n) → H b = none := by
      intro b nb
      cases q : H b with
      | none => rfl
      | some u =>
        obtain ⟨rfl, _⟩ := one b u q
        exact absurd rfl (nb _ _ ha)
    have freeD : ∀ {b : Addr} {m : Str → Option Value}, s₁.heap.Ns b m → H b = none := by
      rintro b m ⟨o, es, ep, e, d, _⟩
      refine free b fun o' n e' d' => ?_
      rw [e] at e'
      cases e'
      rw [d] at d'
      cases d'
    have inB : K.In (hidT s₁.heap H) := by
      intro b o e
      refine hidT_get (KX b o e) ?_
      cases q : H b with
      | none => rfl
      | some u =>
        obtain ⟨rfl, z⟩ := one b u q
        rw [z] at e
        cases e
    have gB := ns_hid hns (freeD hns)
    have md : Mod K mg (hidT s₁.heap H) := by
      refine ⟨inB, gB, ⟨mb, ns_hid hb (freeD hb), hbb⟩, ?_⟩
      obtain ⟨mc, h1, h2⟩ := hlim
      exact ⟨mc, ns_hid h1 (freeD h1), h2⟩
    have start0 : Env0 P w K mg (hidT s₁.heap H) callerA [] s₁ H := by
      constructor
      · rfl
      · exact md
      · exact fun b o e => of_hidT e
      · exact Nat.le_of_eq (hidT_size _ _)
      · trivial
      · intro b hb
        exact absurd (show b ∈ ([] : List Addr) from hb) (by simp)
      · exact ok
      · exact .of_eq hg
    have run := (F _ inB gB).go callerA [] s₁ H ⟨[.ref a], []⟩ [.ref a] [.ref a] (fun v _ => v = .bl true) (fun _ _ _ => False) rfl hr start0 (hbind s₁ (.ref a)) (.cons rfl .nil) (hsp H only seq)
    refine codeAny_mono run ?_
    rintro (er | fl) s' h
    · exact False.elim h
    cases fl with
    | next => exact False.elim h
    | brk => exact False.elim h
    | cont => exact False.elim h
    | ret u =>
      obtain ⟨v, H', os, bare, un, ok', rv, q⟩ := h
      cases (show v = .bl true from q)
      cases (show u = Value.bool true from rv)
      refine ⟨rfl, OldK.of_keep ?_, os, bare⟩
      intro b o e
      cases z : H b with
      | none => exact un.keep b o e z (fun m => absurd (show b ∈ ([] : List Addr) from m) (by simp)) (by simp)
      | some u =>
        rcases only b with z' | ⟨ob, xs, z'⟩
        · rw [z] at z'
          cases z'
        · have e1 := (ok b _ z').1
          have e2 := (ok' b _ (un.frzs b ob _ z')).1
          rw [e] at e1
          rw [e1]
          exact e2
  have rv := vals_ints hi
  cases hk : K.lookup a with
  | some o =>
    have e := KX a o hk
    rw [ha] at e
    cases e
    refine main (fun _ => none) (fun _ => .inl rfl) (.inr ⟨_, vs.toArray, _, hk, rfl, rfl, rfl, ?_, by simpa using rv⟩) ?_ ?_
    · rw [List.size_toArray, hi.length]
      exact hl
    · intro b u z
      cases z
    · intro b u z
      cases z
  | none =>
    refine main (scriptHp a { cls := .type "list", data := .seq vs.toArray } (ns.map V.int)) ?_ (.inl (.inr ⟨_, scriptHp_at⟩)) ?_ ?_
    · intro b
      cases z : scriptHp a { cls := .type "list", data := .seq vs.toArray } (ns.map V.int) b with
      | none => exact .inl rfl
      | some u => exact .inr ⟨_, _, by rw [(scriptHp_some z).2]⟩
    · intro b u z
      obtain ⟨rfl, rfl⟩ := scriptHp_some z
      refine ⟨ha, ?_, vs, _, rv, ha⟩
      rw [List.length_map]
      exact hl
    · intro b u z
      exact ⟨(scriptHp_some z).1, hk⟩

theorem walk_g {l : PySem.W.OpenLaw} {n k : Nat} {q : Program} {loose : List Str} {XP : (Str → Option Value) → Heap → Prop} {YP : World → Heap → Prop} {d : DefRec} {K : Params → PySem.W.Frag} {sp : PySem.W.Frag → Sp} {x : Str}
    (hn : l.most = some n) (hn2 : n ≤ sizeLine) (hdf : d.params.defaults = []) (hr : Room k callerA)
    (hY : ∀ (w : World) (h : Heap), YP w h → (K w.params).In h)
    (F : ∀ (w : World) (mg : Str → Option Value) (fa : Addr) (h : Heap), (K w.params).In h → h.Ns mainGlobals mg → mg d.name = some (.ref fa) →
      ∃ fd : FuncData, (∀ (s : Shared) (u : Value), BindsTo s fd ⟨[u], []⟩ [(x, u)]) ∧
        ∀ base : Heap, (K w.params).In base → base.Ns mainGlobals mg → FnG l.prog w (K w.params) mg base CX0 k fa fd [x] (sp (K w.params)))
    (hsp : ∀ (K : PySem.W.Frag) (H : Hp) (a : Addr) (ns : List Int), ns.length ≤ n → Only H → SqL K H a (ns.map V.int) → sp K [.ref a] H (fun v _ => v = .bl true) fun _ _ _ => False) :
    PySem.W.WalkO q loose XP YP l.row.toRowW d [] (fun f vs => PySem.call f vs) := by
  apply Att.attach_call hn hdf
  intro w s₀ s₁ mg mb fa o pm cd doc a vs ns G Y ho hd hcd hmg hobj hints hlen hg
  obtain ⟨fd, bnd, keeps⟩ := F w mg fa _ (hY w _ Y) G.T.g hmg
  exact law_callG (hY w _ Y) G.T.g G.T.b G.T.builtins G.T.nolimit hg hobj hints (Nat.le_trans hlen hn2) hr keeps bnd (fun H => hsp _ H a ns hlen)
end GR

namespace K2
open PySem PySem.Spec PyProof.Rows L2 GR
/-! ### the mathematics of spans -/
abbrev LIM : Int := 1000000000000000000
def clipI (n : Int) : Int := if (if n < LIM then n else LIM) > -LIM then (if n < LIM then n else LIM) else -LIM
theorem clipI_eq (n : Int) : clipI n = max (-LIM) (min LIM n) := by
  unfold clipI
  split <;> split at * <;> omega
def minI (a b : Int) : Int := if b < a then b else a
def maxI (a b : Int) : Int := if b > a then b else a
def lo4 (a b c d : Int) : Int := min (min (a * c) (a * d)) (min (b * c) (b * d))
def hi4 (a b c d : Int) : Int := max (max (a * c) (a * d)) (max (b * c) (b * d))
def lessS (a b c d : Int) : Int × Int := if b < c then (1, 1) else if d ≤ a then (0, 0) else (0, 1)
def sameS (a b c d : Int) : Int × Int := if b < c ∨ d < a then (0, 0) else if a = b ∧ c = d then (1, 1) else (0, 1)
/-! ### the text -/
def topS (i : Nat) : Stmt := PySem.Challenge.pw_lookdone_k02_spans_by_all_pairs_of_value.main.body.getD i (.Pass ⟨0, 0, 0, 0⟩)
theorem same_upd {H : Hp} {p : Addr} {o : HO} (h : H p = none) : Same H (upd H p o) := fun b x e => by
  rw [upd_ne (ne_of_none e h)]
  exact e
section
variable {P : Program} {w : World} {K : PySem.W.Frag} {mg : Str → Option Value} {base : Heap}
abbrev s_clip : Stmt := topS 2
theorem sc_clip : FnScope ["number"] ["number"] (defScope s_clip) := ⟨rfl, rfl, rfl, by decide +kernel, rfl, by decide +kernel, by decide +kernel⟩
def sp_clip : Sp := fun vs H Q _ => ∃ n, vs = [.int n] ∧ Q (.int (clipI n)) H
theorem ok_clip {f : Addr} {fd : FuncData} {k : Nat} {tl : Tok} (F : Fun K "clip" "clip" s_clip f fd) (mLIMIT : mg "LIMIT" = some (.int LIM tl)) (mmax : mg "max" = none) (mmin : mg "min" = none) :
    FnOk P w K mg base CX0 (k + 1) f fd ["number"] sp_clip := by
  have nd := sc_clip.nd
  refine F.ok sc_clip (fun vs H Q E h => ?_) (fun cdv A outer s H vs Q E hr h => ?_)
  · obtain ⟨n, rfl, _⟩ := h
    rfl
  · obtain ⟨n, rfl, q⟩ := h
    refine ⟨_, (pss_one (ps_ret (pe_callB (call_max2 rfl) (by rfl) mmax boot_max (pa_cons (pe_un un_neg (pe_glob (v := .int LIM) rfl mLIMIT ⟨_, rfl⟩)) (pa_cons (pe_callB (call_min2 rfl) (by rfl) mmin boot_min (pa_cons (pe_glob (v := .int LIM) rfl mLIMIT ⟨_, rfl⟩) (pa_cons (pv 0) pa_nil))) pa_nil))))), ?_⟩
    refine ⟨_, rfl, .int n, rfl, _, _, rfl, _, _, rfl, ?_⟩
    exact q

/-! hull, plus, minus, less, same: of two tuples a new one -/
def spTwo (K : PySem.W.Frag) (g : Int → Int → Int → Int → Int × Int) : Sp := fun vs H Q _ => ∃ (x y : Addr) (a b c d : Int), vs = [.ref x, .ref y] ∧ SqT K H x [.int a, .int b] ∧ SqT K H y [.int c, .int d] ∧
  (-(2 ^ 64) < a ∧ a < 2 ^ 64) ∧ (-(2 ^ 64) < b ∧ b < 2 ^ 64) ∧
  ∀ H' p, Same H H' → H p = none → H' p = some (.tup [.int (g a b c d).1, .int (g a b c d).2]) → Q (.ref p) H'
theorem spTwo_len {g : Int → Int → Int → Int → Int × Int} : ∀ vs H Q E, spTwo K g vs H Q E → vs.length = 2 := by
  rintro _ _ _ _ ⟨x, y, a, b, c, d, rfl, _⟩
  rfl
theorem le2 : 2 ≤ sizeLine := by decide
theorem at0 {xs : List V} {v : V} : atI (v :: xs) 0 = some v := atI_nat (j := 0) rfl
theorem at1 {xs : List V} {v u : V} : atI (u :: v :: xs) 1 = some v := atI_nat (j := 1) rfl
theorem at2 {xs : List V} {v u t : V} : atI (t :: u :: v :: xs) 2 = some v := atI_nat (j := 2) rfl
abbrev s_hull : Stmt := topS 3
theorem sc_hull : FnScope ["one", "other"] ["one", "other"] (defScope s_hull) := ⟨rfl, rfl, rfl, by decide +kernel, rfl, by decide +kernel, by decide +kernel⟩
theorem ok_hull {f : Addr} {fd : FuncData} {k : Nat} (F : Fun K "hull" "hull" s_hull f fd) (mmax : mg "max" = none) (mmin : mg "min" = none) :
    FnOk P w K mg base CX0 (k + 1) f fd ["one", "other"] (spTwo K fun a b c d => (minI a c, maxI b d)) := by
  have nd := sc_hull.nd
  refine F.ok sc_hull spTwo_len (fun cdv A outer s H vs Q E hr h => ?_)
  obtain ⟨x, y, a, b, c, d, rfl, hx, hy, -, -, q⟩ := h
  refine ⟨_, (pss_one (ps_ret (pe_tup (pa_cons (pe_callB (call_min2 rfl) (by rfl) mmin boot_min (pa_cons (pe_ix ix_tup (pv 0) pe_int (fun _ _ => rfl)) (pa_cons (pe_ix ix_tup (pv 1) pe_int (fun _ _ => rfl)) pa_nil))) (pa_cons (pe_callB (call_max2 rfl) (by rfl) mmax boot_max (pa_cons (pe_ix ix_tup (pv 0) pe_int (fun _ _ => rfl)) (pa_cons (pe_ix ix_tup (pv 1) pe_int (fun _ _ => rfl)) pa_nil))) pa_nil))))), ?_⟩
  refine ⟨.ref x, rfl, x, _, 0, _, rfl, rfl, hx, at0, .ref y, rfl, y, _, 0, _, rfl, rfl, hy, at0, _, _, rfl, .ref x, rfl, x, _, 1, _, rfl, rfl, hx, at1, .ref y, rfl, y, _, 1, _, rfl, rfl, hy, at1, _, _, rfl, le2, fun p np => ?_⟩
  exact q _ p (same_upd np) np upd_same
abbrev s_plus : Stmt := topS 4
theorem sc_plus : FnScope ["one", "other"] ["one", "other"] (defScope s_plus) := ⟨rfl, rfl, rfl, by decide +kernel, rfl, by decide +kernel, by decide +kernel⟩
theorem ok_plus {f fclip : Addr} {fd fdclip : FuncData} {k : Nat} (F : Fun K "plus" "plus" s_plus f fd) (Gclip : FnOk P w K mg base CX0 k fclip fdclip ["number"] sp_clip) (gclip : mg "clip" = some (.ref fclip)) (Kclip : PySem.W.keepIn K (.ref fclip) = true) (bclip : Binds K fdclip ["number"] []) :
    FnOk P w K mg base CX0 (k + 1) f fd ["one", "other"] (spTwo K fun a b c d => (clipI (a + c), clipI (b + d))) := by
  have nd := sc_plus.nd
  refine F.ok sc_plus spTwo_len (fun cdv A outer s H vs Q E hr h => ?_)
  obtain ⟨x, y, a, b, c, d, rfl, hx, hy, -, -, q⟩ := h
  refine ⟨_, (pss_one (ps_ret (pe_tup (pa_cons (pe_call Gclip hr (by rfl) gclip Kclip bclip .nil pass0 (pa_cons (pe_op op_add (pe_ix ix_tup (pv 0) pe_int (fun _ _ => rfl)) (pe_ix ix_tup (pv 1) pe_int (fun _ _ => rfl))) pa_nil)) (pa_cons (pe_call Gclip hr (by rfl) gclip Kclip bclip .nil pass0 (pa_cons (pe_op op_add (pe_ix ix_tup (pv 0) pe_int (fun _ _ => rfl)) (pe_ix ix_tup (pv 1) pe_int (fun _ _ => rfl))) pa_nil)) pa_nil))))), ?_⟩
  refine ⟨.ref x, rfl, x, _, 0, _, rfl, rfl, hx, at0, .ref y, rfl, y, _, 0, _, rfl, rfl, hy, at0, _, _, rfl, rfl, _, rfl, .ref x, rfl, x, _, 1, _, rfl, rfl, hx, at1, .ref y, rfl, y, _, 1, _, rfl, rfl, hy, at1, _, _, rfl, rfl, _, rfl, le2, fun p np => ?_⟩
  exact q _ p (same_upd np) np upd_same
abbrev s_minus : Stmt := topS 5
theorem sc_minus : FnScope ["one", "other"] ["one", "other"] (defScope s_minus) := ⟨rfl, rfl, rfl, by decide +kernel, rfl, by decide +kernel, by decide +kernel⟩
theorem ok_minus {f fclip : Addr} {fd fdclip : FuncData} {k : Nat} (F : Fun K "minus" "minus" s_minus f fd) (Gclip : FnOk P w K mg base CX0 k fclip fdclip ["number"] sp_clip) (gclip : mg "clip" = some (.ref fclip)) (Kclip : PySem.W.keepIn K (.ref fclip) = true) (bclip : Binds K fdclip ["number"] []) :
    FnOk P w K mg base CX0 (k + 1) f fd ["one", "other"] (spTwo K fun a b c d => (clipI (a - d), clipI (b - c))) := by
  have nd := sc_minus.nd
  refine F.ok sc_minus spTwo_len (fun cdv A outer s H vs Q E hr h => ?_)
  obtain ⟨x, y, a, b, c, d, rfl, hx, hy, -, -, q⟩ := h
  refine ⟨_, (pss_one (ps_ret (pe_tup (pa_cons (pe_call Gclip hr (by rfl) gclip Kclip bclip .nil pass0 (pa_cons (pe_op op_sub (pe_ix ix_tup (pv 0) pe_int (fun _ _ => rfl)) (pe_ix ix_tup (pv 1) pe_int (fun _ _ => rfl))) pa_nil)) (pa_cons (pe_call Gclip hr (by rfl) gclip Kclip bclip .nil pass0 (pa_cons (pe_op op_sub (pe_ix ix_tup (pv 0) pe_int (fun _ _ => rfl)) (pe_ix ix_tup (pv 1) pe_int (fun _ _ => rfl))) pa_nil)) pa_nil))))), ?_⟩
  refine ⟨.ref x, rfl, x, _, 0, _, rfl, rfl, hx, at0, .ref y, rfl, y, _, 1, _, rfl, rfl, hy, at1, _, _, rfl, rfl, _, rfl, .ref x, rfl, x, _, 1, _, rfl, rfl, hx, at1, .ref y, rfl, y, _, 0, _, rfl, rfl, hy, at0, _, _, rfl, rfl, _, rfl, le2, fun p np => ?_⟩
  exact q _ p (same_upd np) np upd_same
abbrev s_less : Stmt := topS 7
theorem sc_less : FnScope ["one", "other"] ["one", "other"] (defScope s_less) := ⟨rfl, rfl, rfl, by decide +kernel, rfl, by decide +kernel, by decide +kernel⟩
theorem ok_less {f : Addr} {fd : FuncData} {k : Nat} (F : Fun K "less" "less" s_less f fd) :
    FnOk P w K mg base CX0 (k + 1) f fd ["one", "other"] (spTwo K lessS) := by
  have nd := sc_less.nd
  refine F.ok sc_less spTwo_len (fun cdv A outer s H vs Q E hr h => ?_)
  obtain ⟨x, y, a, b, c, d, rfl, hx, hy, -, -, q⟩ := h
  refine ⟨_, (pss_cons (ps_if (pt_cmpR op_lt (pe_ix ix_tup (pv 0) pe_int (fun _ _ => rfl)) (pe_ix ix_tup (pv 1) pe_int (fun _ _ => rfl)) (nomark _))
      (pss_one (ps_ret (pe_tup (pa_cons pe_int (pa_cons pe_int pa_nil)))))
      pss_nil)
      (pss_cons (ps_if (pt_cmpR op_ge (pe_ix ix_tup (pv 0) pe_int (fun _ _ => rfl)) (pe_ix ix_tup (pv 1) pe_int (fun _ _ => rfl)) (nomark _))
      (pss_one (ps_ret (pe_tup (pa_cons pe_int (pa_cons pe_int pa_nil)))))
      pss_nil)
      (pss_one (ps_ret (pe_tup (pa_cons pe_int (pa_cons pe_int pa_nil))))))), ?_⟩
  refine ⟨.ref x, rfl, x, _, 1, _, rfl, rfl, hx, at1, .ref y, rfl, y, _, 0, _, rfl, rfl, hy, at0, _, _, rfl, rfl, _, rfl, ite2 (fun e => ?_) (fun e => ?_)⟩
  · have e := of_decide_eq_true e
    refine ⟨le2, fun p np => q _ p (same_upd np) np ?_⟩
    rw [upd_same, lessS, if_pos e]
  · have e : ¬ b < c := fun z => e (decide_eq_true z)
    refine ⟨.ref x, rfl, x, _, 0, _, rfl, rfl, hx, at0, .ref y, rfl, y, _, 1, _, rfl, rfl, hy, at1, _, _, rfl, rfl, _, rfl, ite2 (fun e2 => ?_) (fun e2 => ?_)⟩
    · have e2 := of_decide_eq_true e2
      refine ⟨le2, fun p np => q _ p (same_upd np) np ?_⟩
      rw [upd_same, lessS, if_neg e, if_pos e2]
    · have e2 : ¬ d ≤ a := fun z => e2 (decide_eq_true z)
      refine ⟨le2, fun p np => q _ p (same_upd np) np ?_⟩
      rw [upd_same, lessS, if_neg e, if_neg e2]
theorem int_inj {a b : Int} : (V.int a = V.int b) = (a = b) := by
  apply propext
  exact ⟨fun h => V.int.inj h, fun h => congrArg _ h⟩
abbrev s_same : Stmt := topS 8
theorem sc_same : FnScope ["one", "other"] ["one", "other"] (defScope s_same) := ⟨rfl, rfl, rfl, by decide +kernel, rfl, by decide +kernel, by decide +kernel⟩
theorem ok_same {f : Addr} {fd : FuncData} {k : Nat} (F : Fun K "same" "same" s_same f fd) :
    FnOk P w K mg base CX0 (k + 1) f fd ["one", "other"] (spTwo K sameS) := by
  have nd := sc_same.nd
  refine F.ok sc_same spTwo_len (fun cdv A outer s H vs Q E hr h => ?_)
  obtain ⟨x, y, a, b, c, d, rfl, hx, hy, -, -, q⟩ := h
  refine ⟨_, (pss_cons (ps_if (PW.pt (pw_or (pt_cmpR op_lt (pe_ix ix_tup (pv 0) pe_int (fun _ _ => rfl)) (pe_ix ix_tup (pv 1) pe_int (fun _ _ => rfl)) (nomark _)) (pw_or1 (pt_cmpR op_lt (pe_ix ix_tup (pv 1) pe_int (fun _ _ => rfl)) (pe_ix ix_tup (pv 0) pe_int (fun _ _ => rfl)) (nomark _)))))
      (pss_one (ps_ret (pe_tup (pa_cons pe_int (pa_cons pe_int pa_nil)))))
      pss_nil)
      (pss_cons (ps_if (PW.pt (pw_and (pt_cmpR op_eq (pe_ix ix_tup (pv 0) pe_int (fun _ _ => rfl)) (pe_ix ix_tup (pv 0) pe_int (fun _ _ => rfl)) (nomark _)) (pw_and1 (pt_cmpR op_eq (pe_ix ix_tup (pv 1) pe_int (fun _ _ => rfl)) (pe_ix ix_tup (pv 1) pe_int (fun _ _ => rfl)) (nomark _)))))
      (pss_one (ps_ret (pe_tup (pa_cons pe_int (pa_cons pe_int pa_nil)))))
      pss_nil)
      (pss_one (ps_ret (pe_tup (pa_cons pe_int (pa_cons pe_int pa_nil))))))), ?_⟩
  have yes : ∀ r : Int × Int, sameS a b c d = r → 2 ≤ sizeLine ∧ ∀ p, H p = none → Q (.ref p) (upd H p (.tup [.int r.1, .int r.2])) := by
    rintro r rfl
    exact ⟨le2, fun p np => q _ p (same_upd np) np upd_same⟩
  refine ⟨.ref x, rfl, x, _, 1, _, rfl, rfl, hx, at1, .ref y, rfl, y, _, 0, _, rfl, rfl, hy, at0, _, _, rfl, rfl, _, rfl, ite2 (fun e => ?_) (fun e => ?_)⟩
  · have e := of_decide_eq_true e
    refine iteT (yes (0, 0) ?_)
    rw [sameS, if_pos (.inl e)]
  have e : ¬ b < c := fun z => e (decide_eq_true z)
  refine ⟨.ref y, rfl, y, _, 1, _, rfl, rfl, hy, at1, .ref x, rfl, x, _, 0, _, rfl, rfl, hx, at0, _, _, rfl, rfl, _, rfl, ite2 (fun e2 => ?_) (fun e2 => ?_)⟩
  · have e2 := of_decide_eq_true e2
    refine yes (0, 0) ?_
    rw [sameS, if_pos (.inr e2)]
  have e2 : ¬ d < a := fun z => e2 (decide_eq_true z)
  have e3 : ¬ (b < c ∨ d < a) := fun z => z.elim e e2
  refine ⟨.ref x, rfl, x, _, 0, _, rfl, rfl, hx, at0, .ref x, rfl, x, _, 1, _, rfl, rfl, hx, at1, rfl, _, rfl, ite2 (fun e4 => ?_) (fun e4 => ?_)⟩
  · have e4 := V.int.inj (of_decide_eq_true e4)
    refine ⟨.ref y, rfl, y, _, 0, _, rfl, rfl, hy, at0, .ref y, rfl, y, _, 1, _, rfl, rfl, hy, at1, rfl, _, rfl, ite2 (fun e5 => ?_) (fun e5 => ?_)⟩
    · have e5 := V.int.inj (of_decide_eq_true e5)
      refine yes (1, 1) ?_
      rw [sameS, if_neg e3, if_pos ⟨e4, e5⟩]
    · refine yes (0, 1) ?_
      rw [sameS, if_neg e3, if_neg fun z => e5 (decide_eq_true (congrArg V.int z.2))]
  · refine iteF (yes (0, 1) ?_)
    rw [sameS, if_neg e3, if_neg fun z => e4 (decide_eq_true (congrArg V.int z.1))]
abbrev s_times : Stmt := topS 6
abbrev N_times : List Str := ["one", "other", "products", "factor", "by"]
theorem sc_times : FnScope N_times ["one", "other"] (defScope s_times) := ⟨rfl, rfl, rfl, by decide +kernel, rfl, by decide +kernel, by decide +kernel⟩
theorem ok_times {f fclip : Addr} {fd fdclip : FuncData} {k : Nat} (F : Fun K "times" "times" s_times f fd) (Gclip : FnOk P w K mg base CX0 k fclip fdclip ["number"] sp_clip) (gclip : mg "clip" = some (.ref fclip)) (Kclip : PySem.W.keepIn K (.ref fclip) = true) (bclip : Binds K fdclip ["number"] [])
    (mmax : mg "max" = none) (mmin : mg "min" = none) :
    FnOk P w K mg base CX0 (k + 1) f fd ["one", "other"] (spTwo K fun a b c d => (clipI (lo4 a b c d), clipI (hi4 a b c d))) := by
  have nd := sc_times.nd
  refine F.ok sc_times spTwo_len (fun cdv A outer s H vs Q E hr h => ?_)
  obtain ⟨x, y, a, b, c, d, rfl, hx, hy, ha, hb, q⟩ := h
  refine ⟨_, (pss_cons (ps_setLc2 (i := 2) (own := [("factor", 3), ("by", 4)]) (vs1 := [4]) (wi1 := iTup K (tVar 1)) rfl nd rfl rfl (sw_true rfl rfl rfl (by decide +kernel)) (pi_tup (pv 0)) (blkOk_by (N := N_times) (sc := defScope s_times) (by decide +kernel)) (by decide)
        (fun _ _ _ _ _ => pg_name (i := 3) nd rfl (Or.inl rfl)) (fun _ _ _ _ _ => pts_nil) (fun _ _ _ _ _ => pi_tup (pv 1)) (fun _ _ _ _ _ => pg_name (i := 4) nd rfl (Or.inl rfl)) (fun _ _ _ _ _ => pts_nil) (fun _ _ _ _ _ => pe_op op_mul (pv 3) (pv 4)))
      (pss_one (ps_ret (pe_tup (pa_cons (pe_call Gclip hr (by rfl) gclip Kclip bclip .nil pass0 (pa_cons (pe_callB (cr_min rfl) (by rfl) mmin boot_min (pa_cons (pv 2) pa_nil)) pa_nil)) (pa_cons (pe_call Gclip hr (by rfl) gclip Kclip bclip .nil pass0 (pa_cons (pe_callB (cr_max rfl) (by rfl) mmax boot_max (pa_cons (pv 2) pa_nil)) pa_nil)) pa_nil)))))), ?_⟩
  refine ⟨.ref x, rfl, x, rfl, ⟨_, hx⟩, fun D nD => ?_⟩
  have fin : ∀ H', Same H H' → H' D = some (.lst ([a * c, a * d, b * c, b * d].map V.int)) → ∀ (m1 m2 : Int), m1 = lo4 a b c d → m2 = hi4 a b c d →
      2 ≤ sizeLine ∧ ∀ p, H' p = none → Q (.ref p) (upd H' p (.tup [.int (clipI m1), .int (clipI m2)])) := by
    rintro H' sm hD m1 m2 rfl rfl
    exact ⟨le2, fun p np => q _ p (sm.trans (same_upd np)) (sm.free np) upd_same⟩
  refine ⟨fun i m H' => Same H H' ∧ H' D = some (.lst (([a * c, a * d, b * c, b * d].take (2 * i)).map V.int)) ∧ i + m = 2, ⟨2, same_upd nD, by rw [upd_same]; rfl, rfl⟩, ?_⟩
  rintro i m H' ⟨sm, hD, him⟩
  by_cases h2 : i = 2
  · subst h2
    refine .inl ⟨⟨_, hx.elim (fun z => ?_) .inr, Nat.le_refl _⟩, ?_⟩
    · exact .inl (z.elim (fun z => .inl (sm _ _ z)) fun ⟨o, z⟩ => .inr ⟨o, sm _ _ z⟩)
    · refine ⟨.ref D, rfl, D, _, rfl, .inl (.inl hD), Nat.zero_lt_succ _, fun m1 mem1 le1 => ?_⟩
      refine ⟨m1, rfl, .ref D, rfl, D, _, rfl, .inl (.inl hD), Nat.zero_lt_succ _, fun m2 mem2 le2' => ?_⟩
      refine ⟨m2, rfl, fin H' sm hD m1 m2 ?_ ?_⟩
      · have r1 := le1 (a * c) (by simp); have r2 := le1 (a * d) (by simp); have r3 := le1 (b * c) (by simp); have r4 := le1 (b * d) (by simp)
        have mem : m1 = a * c ∨ m1 = a * d ∨ m1 = b * c ∨ m1 = b * d := by simpa using mem1
        unfold lo4
        omega
      · have r1 := le2' (a * c) (by simp); have r2 := le2' (a * d) (by simp); have r3 := le2' (b * c) (by simp); have r4 := le2' (b * d) (by simp)
        have mem : m2 = a * c ∨ m2 = a * d ∨ m2 = b * c ∨ m2 = b * d := by simpa using mem2
        unfold hi4
        omega
  · have lift : ∀ {z : Addr} {us : List V} {H2 : Hp}, SqT K H z us → Same H H2 → SqT K H2 z us := by
      intro z us H2 hz s2
      rcases hz with hz | hz
      · exact .inl (hz.elim (fun e => .inl (s2 _ _ e)) fun ⟨o, e⟩ => .inr ⟨o, s2 _ _ e⟩)
      · exact .inr hz
    obtain ⟨u, hu, hub⟩ : ∃ u, ([V.int a, V.int b] : List V)[i]? = some (.int u) ∧ (-(2 ^ 64) < u ∧ u < 2 ^ 64) ∧ ∀ j v, ([V.int c, V.int d] : List V)[j]? = some (.int v) → ([a * c, a * d, b * c, b * d] : List Int)[2 * i + j]? = some (u * v) := by
      have : i = 0 ∨ i = 1 := by omega
      rcases this with rfl | rfl
      · refine ⟨a, rfl, ha, fun j v e => ?_⟩
        match j, e with
        | 0, e => cases e; rfl
        | 1, e => cases e; rfl
      · refine ⟨b, rfl, hb, fun j v e => ?_⟩
        match j, e with
        | 0, e => cases e; rfl
        | 1, e => cases e; rfl
    obtain ⟨hub, hprod⟩ := hub
    refine .inr ⟨⟨_, _, lift hx sm, hu⟩, fun H2 => Same H H2 ∧ H2 D = some (.lst (([a * c, a * d, b * c, b * d].take (2 * (i + 1))).map V.int)), ?_, ?_⟩
    · rintro H2 ⟨s2, h2⟩
      exact ⟨m - 1, by omega, s2, h2, by omega⟩
    · rintro v H2 ⟨rfl, fv⟩
      cases (Option.some.inj ((fv _ (lift hx sm)).symm.trans hu))
      refine ⟨rfl, yes_then ?_⟩
      refine ⟨.ref y, rfl, y, rfl, ⟨_, lift hy sm⟩, ?_⟩
      refine ⟨fun j n H3 => Same H H3 ∧ H3 D = some (.lst (([a * c, a * d, b * c, b * d].take (2 * i + j)).map V.int)) ∧ j + n = 2, ⟨2, sm, hD, rfl⟩, ?_⟩
      rintro j n H3 ⟨s3, h3, hjn⟩
      by_cases hj : j = 2
      · subst hj
        exact .inl ⟨⟨_, lift hy s3, Nat.le_refl _⟩, s3, h3⟩
      · obtain ⟨v, hv⟩ : ∃ v, ([V.int c, V.int d] : List V)[j]? = some (.int v) := by
          have : j = 0 ∨ j = 1 := by omega
          rcases this with rfl | rfl
          · exact ⟨c, rfl⟩
          · exact ⟨d, rfl⟩
        have hp := hprod j v hv
        refine .inr ⟨⟨_, _, lift hy s3, hv⟩, fun H4 => Same H H4 ∧ H4 D = some (.lst (([a * c, a * d, b * c, b * d].take (2 * i + (j + 1))).map V.int)), ?_, ?_⟩
        · rintro H4 ⟨s4, h4⟩
          exact ⟨n - 1, by omega, s4, h4, by omega⟩
        · rintro x4 H4 ⟨rfl, fv4⟩
          cases (Option.some.inj ((fv4 _ (lift hy s3)).symm.trans hv))
          refine ⟨rfl, yes_then ?_⟩
          refine ⟨.int u, rfl, .int v, rfl, u, v, rfl, rfl, .inl hub, _, h3, ?_, ?_, ?_⟩
          · rw [List.length_map, List.length_take]
            exact Nat.lt_of_le_of_lt (Nat.min_le_right _ _) (small1000 (show 4 ≤ 1000 by decide))
          · intro b2 o e
            have nb : b2 ≠ D := by
              rintro rfl
              rw [nD] at e
              cases e
            rw [upd_ne nb]
            exact s3 _ _ e
          · rw [upd_same, ← Nat.add_assoc, List.take_add_one, hp, List.map_append]
            rfl
end
end K2

namespace K2
open PySem PySem.Spec PyProof.Rows L2 GR
/-! ### the law's deck -/
/-- the deck at d: the cells at c, a number, the count of draws, at most N -/
def Deck (H : Hp) (d c : Addr) (N : Int) : Prop := ∃ (cells : List Int) (m n : Int), H d = some (.lst [.ref c, .int m, .int n]) ∧ H c = some (.lst (cells.map V.int)) ∧ cells.length ≤ 63 ∧ 0 ≤ n ∧ n ≤ N
theorem Deck.ne {H : Hp} {d c : Addr} {N : Int} (h : Deck H d c N) : c ≠ d := by
  obtain ⟨cells, m, n, h1, h2, _⟩ := h
  rintro rfl
  rw [h1] at h2
  have e := HO.lst.inj (Option.some.inj h2)
  cases cells with
  | nil => cases e
  | cons x r =>
    have := (List.cons.inj e).1
    cases this
theorem Deck.mono {H : Hp} {d c : Addr} {N M : Int} (h : Deck H d c N) (hm : N ≤ M) : Deck H d c M := by
  obtain ⟨cells, m, n, h1, h2, h3, h4, h5⟩ := h
  exact ⟨cells, m, n, h1, h2, h3, h4, Int.le_trans h5 hm⟩
/-- all but the deck is as it was -/
def Keep (d c : Addr) (H H' : Hp) : Prop := ∀ b o, b ≠ d → b ≠ c → H b = some o → H' b = some o
theorem Keep.refl {d c : Addr} {H : Hp} : Keep d c H H := fun _ _ _ _ e => e
theorem Keep.trans {d c : Addr} {H H1 H2 : Hp} (a : Keep d c H H1) (b : Keep d c H1 H2) : Keep d c H H2 := fun x o h1 h2 e => b x o h1 h2 (a x o h1 h2 e)
theorem Keep.of {d c : Addr} {H H' : Hp} (s : Same H H') : Keep d c H H' := fun b o _ _ e => s b o e
theorem Deck.same {H H' : Hp} {d c : Addr} {N : Int} (h : Deck H d c N) (s : Same H H') : Deck H' d c N := by
  obtain ⟨cells, m, n, h1, h2, h3⟩ := h
  exact ⟨cells, m, n, s _ _ h1, s _ _ h2, h3⟩
/-- a tuple, a list that is not the deck's stays -/
theorem Keep.tup {d c p : Addr} {H H' : Hp} {N : Int} {xs : List V} (s : Keep d c H H') (D : Deck H d c N) (h : H p = some (.tup xs)) : H' p = some (.tup xs) := by
  obtain ⟨cells, m, n, h1, h2, _⟩ := D
  exact s p _ (ne_of h h1 (fun z => by cases z)) (ne_of h h2 (fun z => by cases z)) h
theorem dp_ints {K : PySem.W.Frag} {H : Hp} : ∀ ns : List Int, DpAll K H (ns.map V.int) (ns.map PyData.int)
  | [] => .nil
  | n :: ns => .cons (.int n) (dp_ints ns)
theorem lay_ints : ∀ ns : List Int, PyData.canLayAll0 (ns.map PyData.int) = true
  | [] => by simp only [List.map_nil, PyData.canLayAll0]
  | n :: ns => by simp only [List.map_cons, PyData.canLayAll0, PyData.canLay0, lay_ints ns, Bool.and_self]
theorem depth_ints : ∀ ns : List Int, PyData.depthAll (ns.map PyData.int) ≤ 1
  | [] => by simp only [List.map_nil, PyData.depthAll]; omega
  | n :: ns => by
    have := depth_ints ns
    simp only [List.map_cons, PyData.depthAll, PyData.depth]
    omega
theorem shaped_ints (ns : List Int) : SeqAt.shaped (.list (ns.map PyData.int)) = true := by
  have := depth_ints ns
  unfold SeqAt.shaped
  rw [Bool.and_eq_true]
  refine ⟨by simp only [PyData.canLay0, lay_ints], decide_eq_true ?_⟩
  simp only [PyData.depth]
  omega
theorem neq_nil : ∀ ns : List Int, (!PyData.eqv (.list (ns.map PyData.int)) (.list [])) = !ns.isEmpty
  | [] => by simp only [List.map_nil, PyData.eqv, PyData.eqvAll, List.isEmpty_nil]
  | n :: ns => by simp only [List.map_cons, PyData.eqv, PyData.eqvAll, List.isEmpty_cons]

def num1 (z n : Int) : Int := (z % 2147483629 + 8123 * (n + 1) * (n + 1) + 41) * 48271 % 2147483647
theorem num1_rng (z n : Int) : -(2 ^ 64) < num1 z n ∧ num1 z n < 2 ^ 64 := by
  unfold num1
  omega
def num2 (x n : Int) : Int := (x * x + 69621 * x + (n + 1)) % 2147483587
theorem num2_rng (x n : Int) : -(2 ^ 64) < num2 x n ∧ num2 x n < 2 ^ 64 := by
  unfold num2
  omega

section
variable {P : Program} {w : World} {K : PySem.W.Frag} {mg : Str → Option Value} {base : Heap}
abbrev s_law_draw : Stmt := topS 11
theorem sc_law_draw : FnScope ["_law_deck_here", "_law_most", "_law_cell", "_law_number"] ["_law_deck_here", "_law_most"] (defScope s_law_draw) := ⟨rfl, rfl, rfl, by decide +kernel, rfl, by decide +kernel, by decide +kernel⟩
def sp_draw : Sp := fun vs H Q _ => ∃ (d c : Addr) (N most : Int), vs = [.ref d, .int most] ∧ Deck H d c N ∧ N < 2 ^ 60 ∧ 0 < most ∧ most < 2 ^ 100 ∧
  ∀ H' r, Keep d c H H' → Deck H' d c (N + 1) → 0 ≤ r → r < most → Q (.int r) H'
theorem ok_draw {f : Addr} {fd : FuncData} {k : Nat} (F : Fun K "_law_draw" "_law_draw" s_law_draw f fd) :
    FnOk P w K mg base CX0 (k + 1) f fd ["_law_deck_here", "_law_most"] sp_draw := by
  have nd := sc_law_draw.nd
  refine F.ok sc_law_draw (fun vs H Q E h => ?_) (fun cdv A outer s H vs Q E hr h => ?_)
  · obtain ⟨d, c, N, most, rfl, _⟩ := h
    rfl
  obtain ⟨d, c, N, most, rfl, D, hN, hm0, hm1, q⟩ := h
  have hcd := D.ne
  obtain ⟨cells, m, n, hd, hc, hlen, hn0, hn1⟩ := D
  refine ⟨_, (pss_cons (ps_asg (pe_op op_add (pe_ix ix_list (pv 0) pe_int (fun _ _ => rfl)) pe_int) (pg_sub (pv 0) pe_int set_list))
      (pss_cons (ps_set (i := 2) nd rfl (.inl rfl) (pe_ix ix_list (pv 0) pe_int (fun _ _ => rfl)))
      (Evl.pss_cut (ps_if (pt_cmpR (op_neD hr.units) (pe_ix ix_list (pv 0) pe_int (fun _ _ => rfl)) (pe_lst pa_nil) (nomark _))
      (pss_cons (ps_set (i := 2) nd rfl (.inl rfl) (pe_bm0 PySem.F.plainAttrs_list PySem.F.slot_list_pop PySem.F.type_list_pop mt_pop (pe_ix ix_list (pv 0) pe_int (fun _ _ => rfl))))
        (pss_one (ps_if (pt_cmpR op_ge (pv 2) (pe_op op_pow pe_int pe_int) (nomark _))
        (pss_cons (ps_expr (pe_bm PySem.F.plainAttrs_list PySem.F.slot_list_append PySem.F.type_list_append mt_append (pe_ix ix_list (pv 0) pe_int (fun _ _ => rfl)) (pa_cons (pe_op op_fdivW (pv 2) (pv 1)) pa_nil)))
          (pss_one (ps_ret (pe_op op_mod (pv 2) (pv 1)))))
        pss_nil)))
      pss_nil)
      (pss_cons (ps_set (i := 3) nd rfl (.inl rfl) (pe_op op_mod (pe_op op_mul (pe_op op_add (pe_op op_add (pe_op op_mod (pv 2) pe_int) (pe_op op_mul (pe_op op_mul pe_int (pe_ix ix_list (pv 0) pe_int (fun _ _ => rfl))) (pe_ix ix_list (pv 0) pe_int (fun _ _ => rfl)))) pe_int) pe_int) pe_int))
      (pss_cons (ps_set (i := 3) nd rfl (.inl rfl) (pe_op op_mod (pe_op op_add (pe_op op_add (pe_op op_mul (pv 3) (pv 3)) (pe_op op_mul pe_int (pv 3))) (pe_ix ix_list (pv 0) pe_int (fun _ _ => rfl))) pe_int))
      (pss_one (ps_ret (pe_op op_mod (pe_op op_fdivW (pe_op op_mod (pe_op op_mul (pv 3) (pe_op op_add (pe_op op_fdivW (pv 3) pe_int) pe_int)) pe_int) pe_int) (pv 1))))))))), ?_⟩
  refine ⟨.ref d, rfl, d, _, 2, _, rfl, rfl, .inl (.inl hd), at2, _, _, rfl, rfl, .ref d, rfl, d, _, 2, 2, rfl, rfl, hd, rfl, ?_⟩
  -- the deck with one draw more
  have h1d : upd H d (.lst [.ref c, .int m, .int (n + 1)]) d = some (.lst [.ref c, .int m, .int (n + 1)]) := upd_same
  have h1c : upd H d (.lst [.ref c, .int m, .int (n + 1)]) c = some (.lst (cells.map V.int)) := by
    rw [upd_ne hcd]
    exact hc
  have k1 : Keep d c H (upd H d (.lst [.ref c, .int m, .int (n + 1)])) := fun b o nb _ e => by
    rw [upd_ne nb]
    exact e
  refine ⟨.ref d, rfl, d, _, 1, _, rfl, rfl, .inl (.inl h1d), at1, ?_⟩
  have wd : CDivW 0 most := wide_div hm0 (b := 100) (by omega) (by decide) (by decide)
  refine ⟨fun σ' H' => ∃ (z : Int) (cells' : List Int), σ' = [some (.ref d), some (.int most), some (.int z), none] ∧ Keep d c H H' ∧ H' d = some (.lst [.ref c, .int m, .int (n + 1)]) ∧ H' c = some (.lst (cells'.map V.int)) ∧ cells'.length ≤ 63, ?_, ?_⟩
  · refine ⟨.ref d, rfl, d, _, 0, _, rfl, rfl, .inl (.inl h1d), at0, Nat.zero_le _, fun e ne => ?_⟩
    have s2 : Same (upd H d (.lst [.ref c, .int m, .int (n + 1)])) (upd (upd H d (.lst [.ref c, .int m, .int (n + 1)])) e (.lst [])) := same_upd ne
    have h2d := s2 _ _ h1d
    have h2c := s2 _ _ h1c
    have k2 := k1.trans (Keep.of s2)
    refine ⟨_, _, .lst (.inl (.inl h2c)) (dp_ints cells), .lst (.inl (.inl upd_same)) .nil, shaped_ints cells, shaped_ints [], _, rfl, ?_⟩
    rw [neq_nil]
    cases hcs : cells with
    | nil => exact iteF ⟨m, cells, rfl, k2, h2d, h2c, hlen⟩
    | cons x0 r0 =>
      refine iteT ?_
      have hne : cells ≠ [] := by
        rw [hcs]
        exact List.cons_ne_nil _ _
      have hlast : (cells.map V.int)[(cells.map V.int).length - 1]? = some (.int (cells.getLast hne)) := by
        rw [List.length_map, List.getElem?_map, ← List.getLast?_eq_getElem?, List.getLast?_eq_getLast hne]
        rfl
      refine ⟨.ref d, rfl, d, _, 0, _, rfl, rfl, .inl (.inl h2d), at0, .inl ⟨rfl, _, .inl (.inl h2c)⟩, c, _, _, rfl, rfl, h2c, hlast, ?_⟩
      have hdrop : (cells.map V.int).dropLast = cells.dropLast.map V.int := by rw [List.map_dropLast]
      rw [hdrop]
      have h3d : upd (upd (upd H d (.lst [.ref c, .int m, .int (n + 1)])) e (.lst [])) c (.lst (cells.dropLast.map V.int)) d = some (.lst [.ref c, .int m, .int (n + 1)]) := by
        rw [upd_ne hcd.symm]
        exact h2d
      have h3c : upd (upd (upd H d (.lst [.ref c, .int m, .int (n + 1)])) e (.lst [])) c (.lst (cells.dropLast.map V.int)) c = some (.lst (cells.dropLast.map V.int)) := upd_same
      have k3 : Keep d c H (upd (upd (upd H d (.lst [.ref c, .int m, .int (n + 1)])) e (.lst [])) c (.lst (cells.dropLast.map V.int))) := fun b o n1 n2 e1 => by
        rw [upd_ne n2]
        exact k2 b o n1 n2 e1
      have l3 : cells.dropLast.length + 1 ≤ 63 := by
        rw [List.length_dropLast, hcs, List.length_cons]
        rw [hcs, List.length_cons] at hlen
        omega
      generalize cells.getLast hne = z
      refine ⟨.int z, rfl, _, _, rfl, rfl, ⟨by decide, by decide, by decide⟩, _, _, rfl, rfl, _, rfl, ite2 (fun e5 => ?_) (fun e5 => ?_)⟩
      · refine ⟨.ref d, rfl, d, _, 0, _, rfl, rfl, .inl (.inl h3d), at0, .inl ⟨rfl, _, .inl (.inl h3c)⟩, .int z, rfl, .int most, rfl, z, most, rfl, rfl, wd, c, _, _, rfl, rfl, h3c, ?_, ?_⟩
        · rw [List.length_map]
          exact small1000 (by omega)
        · refine ⟨.int z, rfl, .int most, rfl, z, most, rfl, rfl, hm0, ?_⟩
          refine q _ _ ?_ ?_ (Int.emod_nonneg _ (by omega)) (Int.emod_lt_of_pos _ hm0)
          · intro b o n1 n2 e1
            rw [upd_ne n2]
            exact k3 b o n1 n2 e1
          · refine ⟨cells.dropLast ++ [z / most], m, n + 1, ?_, ?_, ?_, by omega, by omega⟩
            · rw [upd_ne hcd.symm]
              exact h3d
            · rw [upd_same, List.map_append]
              rfl
            · rw [List.length_append, List.length_singleton]
              exact l3
      · exact ⟨z, cells.dropLast, rfl, k3, h3d, h3c, by omega⟩
  · rintro σ' H' ⟨z, cells', rfl, kk, h5d, h5c, hl5⟩
    have hn2 : -(2 ^ 64) < n + 1 ∧ n + 1 < 2 ^ 64 := by omega
    refine ⟨.int z, rfl, z, 2147483629, rfl, rfl, (show (0 : Int) < 2147483629 by decide), .ref d, rfl, d, _, 2, _, rfl, rfl, .inl (.inl h5d), at2, 8123, n + 1, rfl, rfl, .inl ⟨by decide, by decide⟩, .ref d, rfl, d, _, 2, _, rfl, rfl, .inl (.inl h5d), at2, 8123 * (n + 1), n + 1, rfl, rfl, .inr hn2, _, _, rfl, rfl, _, _, rfl, rfl, _, 48271, rfl, rfl, .inr ⟨by decide, by decide⟩, _, 2147483647, rfl, rfl, (show (0 : Int) < 2147483647 by decide), ?_⟩
    have b1 := num1_rng z n
    refine ⟨.int (num1 z n), rfl, .int (num1 z n), rfl, num1 z n, num1 z n, rfl, rfl, .inl b1, .int (num1 z n), rfl, 69621, num1 z n, rfl, rfl, .inr b1, _, _, rfl, rfl, .ref d, rfl, d, _, 2, _, rfl, rfl, .inl (.inl h5d), at2, _, _, rfl, rfl, _, 2147483587, rfl, rfl, (show (0 : Int) < 2147483587 by decide), ?_⟩
    have b2 := num2_rng (num1 z n) n
    refine ⟨.int (num2 (num1 z n) n), rfl, .int (num2 (num1 z n) n), rfl, num2 (num1 z n) n, 5, rfl, rfl, ⟨by decide, by decide⟩, _, _, rfl, rfl, num2 (num1 z n) n, _, rfl, rfl, .inl b2, _, 2147483579, rfl, rfl, (show (0 : Int) < 2147483579 by decide), _, 64, rfl, rfl, ⟨by decide, by decide⟩, .int most, rfl, _, most, rfl, rfl, hm0, ?_⟩
    exact q _ _ kk ⟨cells', m, n + 1, h5d, h5c, hl5, by omega, by omega⟩ (Int.emod_nonneg _ (by omega)) (Int.emod_lt_of_pos _ hm0)
end
end K2

namespace K2
open PySem PySem.Spec PyProof.Rows L2 GR
theorem Keep.seq {K : PySem.W.Frag} {d c a : Addr} {H H' : Hp} {xs : List V} (s : Keep d c H H') (h : SqL K H a xs) (h1 : a ≠ d) (h2 : a ≠ c) : SqL K H' a xs := by
  rcases h with (h | ⟨o, h⟩) | h
  · exact .inl (.inl (s _ _ h1 h2 h))
  · exact .inl (.inr ⟨o, s _ _ h1 h2 h⟩)
  · exact .inr h
theorem cut63 (ns : List Int) : ∃ ms : List Int, cutV (ns.map V.int) none (some 63) = ms.map V.int ∧ ms.length ≤ 63 := by
  refine ⟨ns.take (min 63 ns.length), ?_, ?_⟩
  · unfold cutV
    rw [HT.sIx_none, show HT.sIx (ns.map V.int).length (ns.map V.int).length (some 63) = min 63 (ns.map V.int).length from HT.sIx_nat _ _ 63, List.drop_zero, List.map_take, List.length_map, Nat.sub_zero]
  · rw [List.length_take]
    omega
theorem small_le {n : Nat} (h : n ≤ 1000) : n ≤ sizeLine := Nat.le_of_lt (small1000 h)
section
variable {P : Program} {w : World} {K : PySem.W.Frag} {mg : Str → Option Value} {base : Heap}
abbrev s_law_deck : Stmt := topS 10
theorem sc_law_deck : FnScope ["_law_script", "_law_cells"] ["_law_script"] (defScope s_law_deck) := ⟨rfl, rfl, rfl, by decide +kernel, rfl, by decide +kernel, by decide +kernel⟩
def sp_deck (K : PySem.W.Frag) : Sp := fun vs H Q _ => ∃ (a : Addr) (ns : List Int), vs = [.ref a] ∧ SqL K H a (ns.map V.int) ∧ ∀ H' d c, Same H H' → H d = none → Deck H' d c 0 → Q (.ref d) H'
theorem ok_deck {f : Addr} {fd : FuncData} {k : Nat} (F : Fun K "_law_deck" "_law_deck" s_law_deck f fd) (mlist : mg "list" = none) (msum : mg "sum" = none) (mlen : mg "len" = none) :
    FnOk P w K mg base CX0 (k + 1) f fd ["_law_script"] (sp_deck K) := by
  have nd := sc_law_deck.nd
  refine F.ok sc_law_deck (fun vs H Q E h => ?_) (fun cdv A outer s H vs Q E hr h => ?_)
  · obtain ⟨a, ns, rfl, _⟩ := h
    rfl
  obtain ⟨a, ns, rfl, hS, q⟩ := h
  obtain ⟨ms, hms, hl⟩ := cut63 ns
  refine ⟨_, (pss_cons (ps_set (i := 1) nd rfl (.inl rfl) (pe_callTy call_list_of (by rfl) mlist boot_list (pa_cons (pe_slice sl_list (pv 0) po_none (po_some pe_int)) pa_nil)))
      (pss_one (ps_ret (pe_lst (pa_cons (pe_revL (pv 1)) (pa_cons (pe_op op_add (pe_op op_mod (pe_callB (cr_sum rfl) (by rfl) msum boot_sum (pa_cons (pv 1) pa_nil)) pe_int) (pe_op op_mul pe_int (pe_callB call_len_seq (by rfl) mlen PySem.boot_len (pa_cons (pv 1) pa_nil)))) (pa_cons pe_int pa_nil))))))), ?_⟩
  refine ⟨.ref a, rfl, 63, rfl, a, _, rfl, hS, fun p np => ?_⟩
  rw [hms]
  have s1 : Same H (upd H p (.lst (ms.map V.int))) := same_upd np
  refine ⟨p, _, rfl, .inl (.inl (.inl upd_same)), fun l nl => ?_⟩
  have s2 := same_upd (o := .lst (ms.map V.int)) nl
  have hl2 : SqL K (upd (upd H p (.lst (ms.map V.int))) l (.lst (ms.map V.int))) l (ms.map V.int) := .inl (.inl upd_same)
  refine ⟨.ref l, rfl, l, _, rfl, hl2, fun c nc => ?_⟩
  have s3 := same_upd (o := .lst (ms.map V.int).reverse) nc
  refine ⟨.ref l, rfl, l, ms, rfl, s3.seq hl2, _, 2147483629, rfl, rfl, (show (0 : Int) < 2147483629 by decide), .ref l, rfl, l, _, rfl, .inl (s3.seq hl2), 69621, _, rfl, rfl, .inl ⟨by decide, by decide⟩, _, _, rfl, rfl, small_le (show 3 ≤ 1000 by decide), fun d nd' => ?_⟩
  refine q _ d c ((s1.trans s2).trans (s3.trans (same_upd nd'))) ?_ ?_
  · exact s1.free (s2.free (s3.free nd'))
  · refine ⟨ms.reverse, _, 0, upd_same, ?_, ?_, Int.le_refl 0, Int.le_refl 0⟩
    · have : c ≠ d := ne_of_none (show upd _ c _ c = _ from upd_same) nd'
      rw [upd_ne this, upd_same, List.map_reverse]
    · rw [List.length_reverse]
      exact hl
abbrev s_law_pick : Stmt := topS 12
theorem sc_law_pick : FnScope ["_law_deck_here", "_law_some"] ["_law_deck_here", "_law_some"] (defScope s_law_pick) := ⟨rfl, rfl, rfl, by decide +kernel, rfl, by decide +kernel, by decide +kernel⟩
def sp_pick (K : PySem.W.Frag) : Sp := fun vs H Q _ => ∃ (d c a : Addr) (N : Int) (xs : List V), vs = [.ref d, .ref a] ∧ Deck H d c N ∧ N < 2 ^ 60 ∧ SqL K H a xs ∧ xs ≠ [] ∧ xs.length ≤ 1000 ∧ a ≠ d ∧ a ≠ c ∧
  ∀ H' v, Keep d c H H' → Deck H' d c (N + 1) → v ∈ xs → Q v H'
theorem ok_pick {f f_law_draw : Addr} {fd fd_law_draw : FuncData} {k : Nat} (F : Fun K "_law_pick" "_law_pick" s_law_pick f fd) (G_law_draw : FnOk P w K mg base CX0 k f_law_draw fd_law_draw ["_law_deck_here", "_law_most"] sp_draw)
    (g_law_draw : mg "_law_draw" = some (.ref f_law_draw)) (K_law_draw : PySem.W.keepIn K (.ref f_law_draw) = true) (b_law_draw : Binds K fd_law_draw ["_law_deck_here", "_law_most"] []) (mlen : mg "len" = none) :
    FnOk P w K mg base CX0 (k + 1) f fd ["_law_deck_here", "_law_some"] (sp_pick K) := by
  have nd := sc_law_pick.nd
  refine F.ok sc_law_pick (fun vs H Q E h => ?_) (fun cdv A outer s H vs Q E hr h => ?_)
  · obtain ⟨d, c, a, N, xs, rfl, _⟩ := h
    rfl
  obtain ⟨d, c, a, N, xs, rfl, D, hN, hS, hne, hlen, had, hac, q⟩ := h
  refine ⟨_, (pss_one (ps_ret (pe_ix ix_list (pv 1) (pe_call G_law_draw hr (by rfl) g_law_draw K_law_draw b_law_draw .nil pass0 (pa_cons (pv 0) (pa_cons (pe_callB call_len_seq (by rfl) mlen PySem.boot_len (pa_cons (pv 1) pa_nil)) pa_nil))) (fun _ _ => rfl)))), ?_⟩
  have hpos : 0 < xs.length := List.length_pos_iff.mpr hne
  refine ⟨.ref a, rfl, .ref d, rfl, .ref a, rfl, a, xs, rfl, .inl hS, d, c, N, (xs.length : Int), rfl, D, hN, by omega, by omega, fun H' r kp D' r0 r1 => ?_⟩
  obtain ⟨j, rfl⟩ := Int.eq_ofNat_of_zero_le r0
  have hj : j < xs.length := by omega
  exact ⟨a, xs, j, xs[j], rfl, rfl, kp.seq hS had hac, atI_nat (List.getElem?_eq_getElem hj), q H' _ kp D' (List.getElem_mem hj)⟩
end
end K2

namespace K2
open PySem PySem.Spec PyProof.Rows L2 GR
theorem Deck.new {H : Hp} {d c a : Addr} {N : Int} (D : Deck H d c N) (na : H a = none) : a ≠ d ∧ a ≠ c := by
  obtain ⟨cells, m, n, h1, h2, _⟩ := D
  exact ⟨(ne_of_none h1 na).symm, (ne_of_none h2 na).symm⟩
theorem Keep.free {d c a : Addr} {H H' : Hp} (s : Keep d c H H') (na : H' a = none) (h1 : a ≠ d) (h2 : a ≠ c) : H a = none := by
  cases q : H a with
  | none => rfl
  | some o =>
    rw [s a o h1 h2 q] at na
    cases na
section
variable {P : Program} {w : World} {K : PySem.W.Frag} {mg : Str → Option Value} {base : Heap}
/-- a span is drawn: a new tuple of two ints within B -/
def sp_span (n B : Int) : Sp := fun vs H Q _ => ∃ (d c : Addr) (N : Int), vs = [.ref d] ∧ Deck H d c N ∧ N < 2 ^ 50 ∧
  ∀ H' p lo hi, Keep d c H H' → Deck H' d c (N + n) → H' p = some (.tup [.int lo, .int hi]) → lo ≤ hi → -B ≤ lo → hi ≤ B → Q (.ref p) H'
abbrev s_law_small : Stmt := topS 13
theorem sc_law_small : FnScope ["_law_deck_here", "_law_low"] ["_law_deck_here"] (defScope s_law_small) := ⟨rfl, rfl, rfl, by decide +kernel, rfl, by decide +kernel, by decide +kernel⟩
theorem ok_small {f f_law_draw f_law_pick : Addr} {fd fd_law_draw fd_law_pick : FuncData} {k : Nat} (F : Fun K "_law_small" "_law_small" s_law_small f fd) (G_law_draw : FnOk P w K mg base CX0 k f_law_draw fd_law_draw ["_law_deck_here", "_law_most"] sp_draw)
    (g_law_draw : mg "_law_draw" = some (.ref f_law_draw)) (K_law_draw : PySem.W.keepIn K (.ref f_law_draw) = true) (b_law_draw : Binds K fd_law_draw ["_law_deck_here", "_law_most"] [])
    (G_law_pick : FnOk P w K mg base CX0 k f_law_pick fd_law_pick ["_law_deck_here", "_law_some"] (sp_pick K))
    (g_law_pick : mg "_law_pick" = some (.ref f_law_pick)) (K_law_pick : PySem.W.keepIn K (.ref f_law_pick) = true) (b_law_pick : Binds K fd_law_pick ["_law_deck_here", "_law_some"] []) :
    FnOk P w K mg base CX0 (k + 1) f fd ["_law_deck_here"] (sp_span 3 100) := by
  have nd := sc_law_small.nd
  refine F.ok sc_law_small (fun vs H Q E h => ?_) (fun cdv A outer s H vs Q E hr h => ?_)
  · obtain ⟨d, c, N, rfl, _⟩ := h
    rfl
  obtain ⟨d, c, N, rfl, D, hN, q⟩ := h
  refine ⟨_, (pss_cons (ps_set (i := 1) nd rfl (.inl rfl) (pe_op op_sub (pe_call G_law_draw hr (by rfl) g_law_draw K_law_draw b_law_draw .nil pass0 (pa_cons (pv 0) (pa_cons pe_int pa_nil))) pe_int))
      (pss_one (ps_ret (pe_tup (pa_cons (pv 1) (pa_cons (pe_op op_add (pv 1) (pe_call G_law_pick hr (by rfl) g_law_pick K_law_pick b_law_pick .nil pass0 (pa_cons (pv 0) (pa_cons (pe_lst (pa_cons pe_int (pa_cons pe_int (pa_cons pe_int (pa_cons pe_int (pa_cons (pe_call G_law_draw hr (by rfl) g_law_draw K_law_draw b_law_draw .nil pass0 (pa_cons (pv 0) (pa_cons pe_int pa_nil))) pa_nil)))))) pa_nil)))) pa_nil)))))), ?_⟩
  refine ⟨.ref d, rfl, d, c, N, 15, rfl, D, by omega, by decide, by decide, fun H1 r k1 D1 r0 r1 => ⟨_, _, rfl, rfl, ?_⟩⟩
  refine ⟨.int (r - 9), rfl, .int (r - 9), rfl, .ref d, rfl, .ref d, rfl, d, c, N + 1, 8, rfl, D1, by omega, by decide, by decide, fun H2 r2 k2 D2 t0 t1 => ⟨small_le (show 5 ≤ 1000 by decide), fun a na => ?_⟩⟩
  have ha := D2.new na
  have sa := same_upd (o := .lst [.int 0, .int 0, .int 1, .int 2, .int r2]) na
  refine ⟨d, c, a, N + 1 + 1, [.int 0, .int 0, .int 1, .int 2, .int r2], rfl, D2.same sa, by omega, .inl (.inl upd_same), List.cons_ne_nil _ _, (show 5 ≤ 1000 by decide), ha.1, ha.2, fun H3 v k3 D3 hv => ?_⟩
  have hv' : v = .int 0 ∨ v = .int 1 ∨ v = .int 2 ∨ v = .int r2 := by simpa using hv
  obtain ⟨j, rfl, j0, j1⟩ : ∃ j, v = .int j ∧ 0 ≤ j ∧ j < 8 := by
    rcases hv' with rfl | rfl | rfl | rfl
    · exact ⟨0, rfl, by decide, by decide⟩
    · exact ⟨1, rfl, by decide, by decide⟩
    · exact ⟨2, rfl, by decide, by decide⟩
    · exact ⟨r2, rfl, t0, t1⟩
  refine ⟨r - 9, j, rfl, rfl, le2, fun p np => ?_⟩
  refine q _ p (r - 9) (r - 9 + j) ?_ ?_ upd_same (by omega) (by omega) (by omega)
  · exact ((k1.trans k2).trans ((Keep.of sa).trans k3)).trans (Keep.of (same_upd np))
  · exact (D3.same (same_upd np)).mono (by omega)
abbrev s_law_end : Stmt := topS 14
theorem sc_law_end : FnScope ["_law_deck_here", "_law_far", "_law_some"] ["_law_deck_here"] (defScope s_law_end) := ⟨rfl, rfl, rfl, by decide +kernel, rfl, by decide +kernel, by decide +kernel⟩
def sp_end : Sp := fun vs H Q _ => ∃ (d c : Addr) (N : Int), vs = [.ref d] ∧ Deck H d c N ∧ N < 2 ^ 55 ∧
  ∀ H' e, Keep d c H H' → Deck H' d c (N + 2) → -LIM ≤ e → e ≤ LIM → Q (.int e) H'
theorem ok_end {f f_law_draw f_law_pick : Addr} {fd fd_law_draw fd_law_pick : FuncData} {k : Nat} (F : Fun K "_law_end" "_law_end" s_law_end f fd) (G_law_draw : FnOk P w K mg base CX0 k f_law_draw fd_law_draw ["_law_deck_here", "_law_most"] sp_draw)
    (g_law_draw : mg "_law_draw" = some (.ref f_law_draw)) (K_law_draw : PySem.W.keepIn K (.ref f_law_draw) = true) (b_law_draw : Binds K fd_law_draw ["_law_deck_here", "_law_most"] [])
    (G_law_pick : FnOk P w K mg base CX0 k f_law_pick fd_law_pick ["_law_deck_here", "_law_some"] (sp_pick K))
    (g_law_pick : mg "_law_pick" = some (.ref f_law_pick)) (K_law_pick : PySem.W.keepIn K (.ref f_law_pick) = true) (b_law_pick : Binds K fd_law_pick ["_law_deck_here", "_law_some"] []) :
    FnOk P w K mg base CX0 (k + 1) f fd ["_law_deck_here"] sp_end := by
  have nd := sc_law_end.nd
  refine F.ok sc_law_end (fun vs H Q E h => ?_) (fun cdv A outer s H vs Q E hr h => ?_)
  · obtain ⟨d, c, N, rfl, _⟩ := h
    rfl
  obtain ⟨d, c, N, rfl, D, hN, q⟩ := h
  refine ⟨_, (pss_cons (ps_set (i := 1) nd rfl (.inl rfl) (pe_op op_pow pe_int pe_int))
      (pss_cons (ps_set (i := 2) nd rfl (.inl rfl) (pe_lst (pa_cons (pv 1) (pa_cons (pe_op op_sub pe_int (pv 1)) (pa_cons (pe_op op_sub (pv 1) pe_int) (pa_cons (pe_op op_sub pe_int (pv 1)) (pa_cons pe_int (pa_cons pe_int (pa_cons (pe_un un_neg pe_int) (pa_cons (pe_op op_fdivW (pv 1) pe_int) (pa_cons (pe_op op_sub pe_int (pe_op op_fdivW (pv 1) pe_int)) (pa_cons (pe_op op_pow pe_int pe_int) (pa_cons (pe_op op_sub (pe_call G_law_draw hr (by rfl) g_law_draw K_law_draw b_law_draw .nil pass0 (pa_cons (pv 0) (pa_cons (pe_op op_mul pe_int (pv 1)) pa_nil))) (pv 1)) pa_nil)))))))))))))
      (pss_one (ps_ret (pe_call G_law_pick hr (by rfl) g_law_pick K_law_pick b_law_pick .nil pass0 (pa_cons (pv 0) (pa_cons (pv 2) pa_nil))))))), ?_⟩
  refine ⟨10, 18, rfl, rfl, ⟨by decide, by decide, by decide⟩, ?_⟩
  have e18 : (10 : Int) ^ (18 : Int).toNat = LIM := by decide
  have e9 : (10 : Int) ^ (9 : Int).toNat = 1000000000 := by decide
  show tSeq _ _ _ [some (.ref d), some (.int ((10 : Int) ^ (18 : Int).toNat)), none] H
  rw [e18]
  refine ⟨.int LIM, rfl, .int LIM, rfl, 0, LIM, rfl, rfl, .int LIM, rfl, LIM, 1, rfl, rfl, .int LIM, rfl, 1, LIM, rfl, rfl, 1, rfl, .int LIM, rfl, LIM, 2, rfl, rfl, ⟨by decide, by decide⟩, .int LIM, rfl, LIM, 2, rfl, rfl, ⟨by decide, by decide⟩, 0, _, rfl, rfl, 10, 9, rfl, rfl, ⟨by decide, by decide, by decide⟩, .ref d, rfl, .int LIM, rfl, 2, LIM, rfl, rfl, .inl ⟨by decide, by decide⟩, d, c, N, 2 * LIM, rfl, D, by omega, by decide, by decide, fun H1 r k1 D1 r0 r1 => ?_⟩
  refine ⟨.int LIM, rfl, r, LIM, rfl, rfl, small_le (show 11 ≤ 1000 by decide), fun a na => ?_⟩
  have ha := D1.new na
  have sa : Same H1 (upd H1 a (.lst [.int LIM, .int (0 - LIM), .int (LIM - 1), .int (1 - LIM), .int 0, .int 1, .int (-1), .int (LIM / 2), .int (0 - LIM / 2), .int (10 ^ (9 : Int).toNat), .int (r - LIM)])) := same_upd na
  refine ⟨.ref d, rfl, .ref a, rfl, d, c, a, N + 1, [.int LIM, .int (0 - LIM), .int (LIM - 1), .int (1 - LIM), .int 0, .int 1, .int (-1), .int (LIM / 2), .int (0 - LIM / 2), .int (10 ^ (9 : Int).toNat), .int (r - LIM)], rfl, D1.same sa, by omega, .inl (.inl upd_same), List.cons_ne_nil _ _, (show 11 ≤ 1000 by decide), ha.1, ha.2, fun H2 v k2 D2 hv => ?_⟩
  have hb : ∃ j, v = .int j ∧ -LIM ≤ j ∧ j ≤ LIM := by
    have hL : LIM = 1000000000000000000 := rfl
    rw [e9] at hv
    simp only [List.mem_cons, List.not_mem_nil, or_false] at hv
    rcases hv with rfl | rfl | rfl | rfl | rfl | rfl | rfl | rfl | rfl | rfl | rfl
    all_goals exact ⟨_, rfl, by omega, by omega⟩
  obtain ⟨j, rfl, j0, j1⟩ := hb
  exact q _ j (k1.trans ((Keep.of sa).trans k2)) (D2.mono (by omega)) j0 j1
abbrev s_law_great : Stmt := topS 15
theorem sc_law_great : FnScope ["_law_deck_here", "_law_ends"] ["_law_deck_here"] (defScope s_law_great) := ⟨rfl, rfl, rfl, by decide +kernel, rfl, by decide +kernel, by decide +kernel⟩
theorem ok_great {f f_law_end : Addr} {fd fd_law_end : FuncData} {k : Nat} (F : Fun K "_law_great" "_law_great" s_law_great f fd) (G_law_end : FnOk P w K mg base CX0 k f_law_end fd_law_end ["_law_deck_here"] sp_end)
    (g_law_end : mg "_law_end" = some (.ref f_law_end)) (K_law_end : PySem.W.keepIn K (.ref f_law_end) = true) (b_law_end : Binds K fd_law_end ["_law_deck_here"] []) (msorted : mg "sorted" = none) :
    FnOk P w K mg base CX0 (k + 1) f fd ["_law_deck_here"] (sp_span 4 LIM) := by
  have nd := sc_law_great.nd
  refine F.ok sc_law_great (fun vs H Q E h => ?_) (fun cdv A outer s H vs Q E hr h => ?_)
  · obtain ⟨d, c, N, rfl, _⟩ := h
    rfl
  obtain ⟨d, c, N, rfl, D, hN, q⟩ := h
  refine ⟨_, (pss_cons (ps_set (i := 1) nd rfl (.inl rfl) (pe_callB cr_sorted (by rfl) msorted boot_sorted (pa_cons (pe_lst (pa_cons (pe_call G_law_end hr (by rfl) g_law_end K_law_end b_law_end .nil pass0 (pa_cons (pv 0) pa_nil)) (pa_cons (pe_call G_law_end hr (by rfl) g_law_end K_law_end b_law_end .nil pass0 (pa_cons (pv 0) pa_nil)) pa_nil))) pa_nil)))
      (pss_one (ps_ret (pe_tup (pa_cons (pe_ix ix_list (pv 1) pe_int (fun _ _ => rfl)) (pa_cons (pe_ix ix_list (pv 1) pe_int (fun _ _ => rfl)) pa_nil)))))), ?_⟩
  refine ⟨.ref d, rfl, d, c, N, rfl, D, by omega, fun H1 e1 k1 D1 a0 a1 => ?_⟩
  refine ⟨.ref d, rfl, d, c, N + 2, rfl, D1, by omega, fun H2 e2 k2 D2 b0 b1 => ?_⟩
  refine ⟨le2, fun a na => ?_⟩
  refine ⟨a, [e1, e2], rfl, .inl (.inl upd_same), (show 2 < 64 by decide), fun ns p hperm hord np => ?_⟩
  have s3 := (same_upd (o := .lst [.int e1, .int e2]) na).trans (same_upd (o := .lst (ns.map V.int)) np)
  obtain ⟨x, y, rfl⟩ : ∃ x y, ns = [x, y] := by
    have hl := hperm.length_eq
    match ns, hl with
    | [x, y], _ => exact ⟨x, y, rfl⟩
  have hxy : x ≤ y := by simpa using hord
  have hx : x = e1 ∨ x = e2 := by simpa using hperm.subset (show x ∈ [x, y] by simp)
  have hy : y = e1 ∨ y = e2 := by simpa using hperm.subset (show y ∈ [x, y] by simp)
  refine ⟨.ref p, rfl, p, _, 0, _, rfl, rfl, .inl (.inl upd_same), at0, .ref p, rfl, p, _, 1, _, rfl, rfl, .inl (.inl upd_same), at1, le2, fun t nt => ?_⟩
  refine q _ t x y ?_ ?_ upd_same hxy (by omega) (by omega)
  · exact (k1.trans k2).trans (Keep.of (s3.trans (same_upd nt)))
  · exact (D2.same (s3.trans (same_upd nt))).mono (by omega)
end
end K2

namespace K2
open PySem PySem.Spec PyProof.Rows L2 GR
/-! ### lists of tuples of two ints -/
def TupAll (H : Hp) : List V → List (Int × Int) → Prop := Paired fun v d => ∃ p, v = .ref p ∧ H p = some (.tup [.int d.1, .int d.2])
/-- at p a list of the tuples ds -/
def Due (H : Hp) (p : Addr) (ds : List (Int × Int)) : Prop := ∃ rs, H p = some (.lst rs) ∧ TupAll H rs ds
theorem TupAll.mono {H H' : Hp} (h : ∀ p xs, H p = some (.tup xs) → H' p = some (.tup xs)) : ∀ {rs : List V} {ds : List (Int × Int)}, TupAll H rs ds → TupAll H' rs ds := fun t => Paired.mapP t fun v d ⟨p, e, q⟩ => ⟨p, e, h _ _ q⟩
theorem TupAll.snoc {H : Hp} {v : V} {d : Int × Int} : ∀ {rs : List V} {ds : List (Int × Int)}, TupAll H rs ds → (∃ p, v = .ref p ∧ H p = some (.tup [.int d.1, .int d.2])) → TupAll H (rs ++ [v]) (ds ++ [d])
  | _, _, .nil, h => .cons h .nil
  | _, _, .cons a t, h => .cons a (TupAll.snoc t h)
theorem TupAll.length {H : Hp} {rs : List V} {ds : List (Int × Int)} (t : TupAll H rs ds) : rs.length = ds.length := Paired.length t
/-- all but what stands at D is as it was -/
def Off (D : Addr) (H H' : Hp) : Prop := ∀ b o, b ≠ D → H b = some o → H' b = some o
/-- what clipped tells of a list of ints -/
def Told (ns : List Int) (d : Int × Int) : Prop := ns ≠ [] ∧ ∀ m M, m ∈ ns → (∀ y, y ∈ ns → m ≤ y) → M ∈ ns → (∀ y, y ∈ ns → y ≤ M) → (clipI m, clipI M) = d
section
variable {P : Program} {w : World} {K : PySem.W.Frag} {mg : Str → Option Value} {base : Heap}
abbrev s_law_clipped : Stmt := topS 16
theorem sc_law_clipped : FnScope ["_law_some"] ["_law_some"] (defScope s_law_clipped) := ⟨rfl, rfl, rfl, by decide +kernel, rfl, by decide +kernel, by decide +kernel⟩
def sp_clipped (K : PySem.W.Frag) : Sp := fun vs H Q _ => ∃ (a : Addr) (ns : List Int), vs = [.ref a] ∧ SqL K H a (ns.map V.int) ∧ ns ≠ [] ∧
  ∀ H' p m M, Same H H' → H p = none → m ∈ ns → (∀ y, y ∈ ns → m ≤ y) → M ∈ ns → (∀ y, y ∈ ns → y ≤ M) → H' p = some (.tup [.int (clipI m), .int (clipI M)]) → Q (.ref p) H'
theorem ok_clipped {f : Addr} {fd : FuncData} {k : Nat} (F : Fun K "_law_clipped" "_law_clipped" s_law_clipped f fd) (mmax : mg "max" = none) (mmin : mg "min" = none) :
    FnOk P w K mg base CX0 (k + 1) f fd ["_law_some"] (sp_clipped K) := by
  have nd := sc_law_clipped.nd
  refine F.ok sc_law_clipped (fun vs H Q E h => ?_) (fun cdv A outer s H vs Q E hr h => ?_)
  · obtain ⟨a, ns, rfl, _⟩ := h
    rfl
  obtain ⟨a, ns, rfl, hS, hne, q⟩ := h
  refine ⟨_, (pss_one (ps_ret (pe_tup (pa_cons (pe_callB (call_max2 rfl) (by rfl) mmax boot_max (pa_cons (pe_op op_sub pe_int (pe_op op_pow pe_int pe_int)) (pa_cons (pe_callB (call_min2 rfl) (by rfl) mmin boot_min (pa_cons (pe_op op_pow pe_int pe_int) (pa_cons (pe_callB (cr_min rfl) (by rfl) mmin boot_min (pa_cons (pv 0) pa_nil)) pa_nil))) pa_nil))) (pa_cons (pe_callB (call_min2 rfl) (by rfl) mmin boot_min (pa_cons (pe_op op_pow pe_int pe_int) (pa_cons (pe_callB (call_max2 rfl) (by rfl) mmax boot_max (pa_cons (pe_op op_sub pe_int (pe_op op_pow pe_int pe_int)) (pa_cons (pe_callB (cr_max rfl) (by rfl) mmax boot_max (pa_cons (pv 0) pa_nil)) pa_nil))) pa_nil))) pa_nil))))), ?_⟩
  have e18 : (10 : Int) ^ (18 : Int).toNat = LIM := by decide
  have hpos : 0 < ns.length := List.length_pos_iff.mpr hne
  refine ⟨10, 18, rfl, rfl, ⟨by decide, by decide, by decide⟩, 0, _, rfl, rfl, 10, 18, rfl, rfl, ⟨by decide, by decide, by decide⟩, .ref a, rfl, a, ns, rfl, hS, hpos, fun m m1 m2 => ?_⟩
  refine ⟨_, _, rfl, _, _, rfl, 10, 18, rfl, rfl, ⟨by decide, by decide, by decide⟩, 10, 18, rfl, rfl, ⟨by decide, by decide, by decide⟩, 0, _, rfl, rfl, .ref a, rfl, a, ns, rfl, hS, hpos, fun M M1 M2 => ?_⟩
  refine ⟨_, _, rfl, _, _, rfl, le2, fun p np => ?_⟩
  refine q _ p m M (same_upd np) np m1 m2 M1 M2 ?_
  rw [upd_same, e18]
  refine congrArg some (congrArg HO.tup ?_)
  have hL : LIM = 1000000000000000000 := rfl
  have a1 : (if (if m < LIM then m else LIM) > 0 - LIM then (if m < LIM then m else LIM) else 0 - LIM) = clipI m := by
    unfold clipI
    rw [Int.zero_sub]
  have a2 : (if (if M > 0 - LIM then M else 0 - LIM) < LIM then (if M > 0 - LIM then M else 0 - LIM) else LIM) = clipI M := by
    unfold clipI
    repeat' split
    all_goals omega
  rw [a1, a2]
end
end K2

namespace K2
open PySem PySem.Spec PyProof.Rows L2 GR
/-! ### all pairs of values -/
def rgI (a b : Int) : List Int := (List.range (b - a).toNat).map fun i => a + ((i : Nat) : Int)
theorem rgV_ints (a b : Int) : rgV a b = (rgI a b).map V.int := by
  unfold rgV rgI
  rw [List.map_map]
  rfl
theorem mem_rgI {a b x : Int} : x ∈ rgI a b ↔ a ≤ x ∧ x < b := by
  unfold rgI
  rw [List.mem_map]
  constructor
  · rintro ⟨i, hi, rfl⟩
    have := List.mem_range.mp hi
    omega
  · rintro ⟨h1, h2⟩
    exact ⟨(x - a).toNat, List.mem_range.mpr (by omega), by omega⟩
theorem rgI_length (a b : Int) : (rgI a b).length = (b - a).toNat := by
  unfold rgI
  rw [List.length_map, List.length_range]
def cross (g : Int → Int → Int) (ys : List Int) : List Int → List Int
  | [] => []
  | x :: r => ys.map (g x) ++ cross g ys r
theorem cross_snoc (g : Int → Int → Int) (ys : List Int) : ∀ {xs : List Int} {i : Nat} {x : Int}, xs[i]? = some x → cross g ys (xs.take (i + 1)) = cross g ys (xs.take i) ++ ys.map (g x)
  | [], i, x, h => by simp at h
  | z :: r, 0, x, h => by
    have e : z = x := Option.some.inj h
    subst e
    simp [cross]
  | z :: r, i + 1, x, h => by
    have ih := cross_snoc g ys (xs := r) (i := i) (x := x) h
    show ys.map (g z) ++ cross g ys (r.take (i + 1)) = ys.map (g z) ++ cross g ys (r.take i) ++ ys.map (g x)
    rw [ih, List.append_assoc]
theorem cross_length (g : Int → Int → Int) (ys : List Int) : ∀ xs : List Int, (cross g ys xs).length = xs.length * ys.length
  | [] => by simp [cross]
  | x :: r => by
    show (ys.map (g x) ++ cross g ys r).length = (r.length + 1) * ys.length
    rw [List.length_append, List.length_map, cross_length g ys r, Nat.add_mul, Nat.one_mul, Nat.add_comm]
theorem mem_cross {g : Int → Int → Int} {ys : List Int} {z : Int} : ∀ {xs : List Int}, z ∈ cross g ys xs ↔ ∃ x, x ∈ xs ∧ ∃ y, y ∈ ys ∧ z = g x y
  | [] => by simp [cross]
  | x :: r => by
    show z ∈ ys.map (g x) ++ cross g ys r ↔ _
    rw [List.mem_append, mem_cross (xs := r), List.mem_map]
    constructor
    · rintro (⟨y, hy, rfl⟩ | ⟨x', hx, q⟩)
      · exact ⟨x, List.mem_cons_self, y, hy, rfl⟩
      · exact ⟨x', List.mem_cons_of_mem _ hx, q⟩
    · rintro ⟨x', hx, y, hy, rfl⟩
      rcases List.mem_cons.mp hx with rfl | hx
      · exact .inl ⟨y, hy, rfl⟩
      · exact .inr ⟨x', hx, y, hy, rfl⟩
def allOf (g : Int → Int → Int) (a b c d : Int) : List Int := cross g (rgI c (d + 1)) (rgI a (b + 1))
theorem mem_allOf {g : Int → Int → Int} {a b c d z : Int} : z ∈ allOf g a b c d ↔ ∃ x y, (a ≤ x ∧ x ≤ b) ∧ (c ≤ y ∧ y ≤ d) ∧ z = g x y := by
  unfold allOf
  rw [mem_cross]
  constructor
  · rintro ⟨x, hx, y, hy, e⟩
    have h1 := mem_rgI.mp hx
    have h2 := mem_rgI.mp hy
    exact ⟨x, y, by omega, by omega, e⟩
  · rintro ⟨x, y, h1, h2, e⟩
    exact ⟨x, mem_rgI.mpr (by omega), y, mem_rgI.mpr (by omega), e⟩
/-- what is told of a list that has lo and hi, and nothing beyond -/
theorem told_of {ns : List Int} {lo hi : Int} (h1 : lo ∈ ns) (h2 : hi ∈ ns) (h3 : ∀ y, y ∈ ns → lo ≤ y) (h4 : ∀ y, y ∈ ns → y ≤ hi) : Told ns (clipI lo, clipI hi) := by
  refine ⟨List.ne_nil_of_mem h1, fun m M m1 m2 M1 M2 => ?_⟩
  have e1 : m = lo := by
    have := m2 lo h1
    have := h3 m m1
    omega
  have e2 : M = hi := by
    have := M2 hi h2
    have := h4 M M1
    omega
  rw [e1, e2]
def g1 : Int → Int → Int := fun x y => x + y
def g2 : Int → Int → Int := fun x y => x - y
def g3 : Int → Int → Int := fun x y => x * y
def g4 : Int → Int → Int := fun x y => if decide (x < y) = true then 1 else 0
def g5 : Int → Int → Int := fun x y => if decide (V.int x = V.int y) = true then 1 else 0
theorem g5_eq (x y : Int) : g5 x y = if x = y then 1 else 0 := by
  unfold g5
  by_cases h : x = y
  · rw [if_pos h, if_pos (decide_eq_true (congrArg V.int h))]
  · rw [if_neg h, if_neg (fun z => h (V.int.inj (of_decide_eq_true z)))]
theorem g4_eq (x y : Int) : g4 x y = if x < y then 1 else 0 := by
  unfold g4
  by_cases h : x < y
  · rw [if_pos h, if_pos (decide_eq_true h)]
  · rw [if_neg h, if_neg (fun z => h (of_decide_eq_true z))]
section
variable {a b c d : Int} (hab : a ≤ b) (hcd : c ≤ d)
include hab hcd
theorem told1 : Told (allOf g1 a b c d) (clipI (a + c), clipI (b + d)) := by
  refine told_of (mem_allOf.mpr ⟨a, c, ⟨by omega, by omega⟩, ⟨by omega, by omega⟩, rfl⟩) (mem_allOf.mpr ⟨b, d, ⟨by omega, by omega⟩, ⟨by omega, by omega⟩, rfl⟩) ?_ ?_
  all_goals
    intro y hy
    obtain ⟨u, v, h1, h2, rfl⟩ := mem_allOf.mp hy
    unfold g1
    omega
theorem told2 : Told (allOf g2 a b c d) (clipI (a - d), clipI (b - c)) := by
  refine told_of (mem_allOf.mpr ⟨a, d, ⟨by omega, by omega⟩, ⟨by omega, by omega⟩, rfl⟩) (mem_allOf.mpr ⟨b, c, ⟨by omega, by omega⟩, ⟨by omega, by omega⟩, rfl⟩) ?_ ?_
  all_goals
    intro y hy
    obtain ⟨u, v, h1, h2, rfl⟩ := mem_allOf.mp hy
    unfold g2
    omega
omit hab hcd in
/-- a product lies between the products of the ends of one factor -/
theorem mul_btw {x u v w : Int} (h1 : u ≤ v) (h2 : v ≤ w) : min (x * u) (x * w) ≤ x * v ∧ x * v ≤ max (x * u) (x * w) := by
  rcases Int.le_total 0 x with hx | hx
  · have p1 := Int.mul_le_mul_of_nonneg_left h1 hx
    have p2 := Int.mul_le_mul_of_nonneg_left h2 hx
    omega
  · have p1 := Int.mul_le_mul_of_nonpos_left hx h1
    have p2 := Int.mul_le_mul_of_nonpos_left hx h2
    omega
omit hab hcd in
theorem lo4_le {u v : Int} (h1 : a ≤ u ∧ u ≤ b) (h2 : c ≤ v ∧ v ≤ d) : lo4 a b c d ≤ u * v ∧ u * v ≤ hi4 a b c d := by
  have p := mul_btw (x := u) h2.1 h2.2
  have p1 := mul_btw (x := c) h1.1 h1.2
  have p2 := mul_btw (x := d) h1.1 h1.2
  rw [Int.mul_comm c a, Int.mul_comm c u, Int.mul_comm c b] at p1
  rw [Int.mul_comm d a, Int.mul_comm d u, Int.mul_comm d b] at p2
  unfold lo4 hi4
  omega
theorem told3 : Told (allOf g3 a b c d) (clipI (lo4 a b c d), clipI (hi4 a b c d)) := by
  have m : ∀ x y, (x = a ∨ x = b) → (y = c ∨ y = d) → x * y ∈ allOf g3 a b c d := by
    intro x y hx hy
    exact mem_allOf.mpr ⟨x, y, by omega, by omega, rfl⟩
  refine told_of ?_ ?_ ?_ ?_
  · have : lo4 a b c d = a * c ∨ lo4 a b c d = a * d ∨ lo4 a b c d = b * c ∨ lo4 a b c d = b * d := by
      unfold lo4
      omega
    rcases this with e | e | e | e <;> rw [e]
    · exact m _ _ (.inl rfl) (.inl rfl)
    · exact m _ _ (.inl rfl) (.inr rfl)
    · exact m _ _ (.inr rfl) (.inl rfl)
    · exact m _ _ (.inr rfl) (.inr rfl)
  · have : hi4 a b c d = a * c ∨ hi4 a b c d = a * d ∨ hi4 a b c d = b * c ∨ hi4 a b c d = b * d := by
      unfold hi4
      omega
    rcases this with e | e | e | e <;> rw [e]
    · exact m _ _ (.inl rfl) (.inl rfl)
    · exact m _ _ (.inl rfl) (.inr rfl)
    · exact m _ _ (.inr rfl) (.inl rfl)
    · exact m _ _ (.inr rfl) (.inr rfl)
  all_goals
    intro y hy
    obtain ⟨u, v, h1, h2, rfl⟩ := mem_allOf.mp hy
    have := lo4_le (a := a) (b := b) (c := c) (d := d) h1 h2
    unfold g3
    omega
omit hab hcd in
theorem clip0 : clipI 0 = 0 := by decide
omit hab hcd in
theorem clip1 : clipI 1 = 1 := by decide
omit hab hcd in
/-- a list of truths -/
theorem told_bits {ns : List Int} {r : Int × Int} (h0 : ∀ y, y ∈ ns → y = 0 ∨ y = 1) (hr : r = (1, 1) ∧ (1 ∈ ns ∧ ∀ y, y ∈ ns → y = 1) ∨ r = (0, 0) ∧ (0 ∈ ns ∧ ∀ y, y ∈ ns → y = 0) ∨ r = (0, 1) ∧ 0 ∈ ns ∧ 1 ∈ ns) : Told ns r := by
  rcases hr with ⟨rfl, h1, h2⟩ | ⟨rfl, h1, h2⟩ | ⟨rfl, h1, h2⟩
  · have := told_of (lo := 1) (hi := 1) h1 h1 (fun y hy => by rw [h2 y hy]; omega) (fun y hy => by rw [h2 y hy]; omega)
    rwa [clip1] at this
  · have := told_of (lo := 0) (hi := 0) h1 h1 (fun y hy => by rw [h2 y hy]; omega) (fun y hy => by rw [h2 y hy]; omega)
    rwa [clip0] at this
  · have := told_of (lo := 0) (hi := 1) h1 h2 (fun y hy => by have := h0 y hy; omega) (fun y hy => by have := h0 y hy; omega)
    rwa [clip0, clip1] at this
theorem told4 : Told (allOf g4 a b c d) (lessS a b c d) := by
  refine told_bits ?_ ?_
  · intro y hy
    obtain ⟨u, v, h1, h2, rfl⟩ := mem_allOf.mp hy
    rw [g4_eq]
    split
    · exact .inr rfl
    · exact .inl rfl
  · unfold lessS
    by_cases e : b < c
    · rw [if_pos e]
      refine .inl ⟨rfl, mem_allOf.mpr ⟨a, c, by omega, by omega, ?_⟩, fun y hy => ?_⟩
      · rw [g4_eq, if_pos (by omega)]
      · obtain ⟨u, v, h1, h2, rfl⟩ := mem_allOf.mp hy
        rw [g4_eq, if_pos (by omega)]
    · rw [if_neg e]
      by_cases e2 : d ≤ a
      · rw [if_pos e2]
        refine .inr (.inl ⟨rfl, mem_allOf.mpr ⟨a, c, by omega, by omega, ?_⟩, fun y hy => ?_⟩)
        · rw [g4_eq, if_neg (by omega)]
        · obtain ⟨u, v, h1, h2, rfl⟩ := mem_allOf.mp hy
          rw [g4_eq, if_neg (by omega)]
      · rw [if_neg e2]
        refine .inr (.inr ⟨rfl, mem_allOf.mpr ⟨b, c, by omega, by omega, ?_⟩, mem_allOf.mpr ⟨a, d, by omega, by omega, ?_⟩⟩)
        · rw [g4_eq, if_neg (by omega)]
        · rw [g4_eq, if_pos (by omega)]
theorem told5 : Told (allOf g5 a b c d) (sameS a b c d) := by
  refine told_bits ?_ ?_
  · intro y hy
    obtain ⟨u, v, h1, h2, rfl⟩ := mem_allOf.mp hy
    rw [g5_eq]
    split
    · exact .inr rfl
    · exact .inl rfl
  · unfold sameS
    by_cases e : b < c ∨ d < a
    · rw [if_pos e]
      refine .inr (.inl ⟨rfl, mem_allOf.mpr ⟨a, c, by omega, by omega, ?_⟩, fun y hy => ?_⟩)
      · rw [g5_eq, if_neg (by omega)]
      · obtain ⟨u, v, h1, h2, rfl⟩ := mem_allOf.mp hy
        rw [g5_eq, if_neg (by omega)]
    · rw [if_neg e]
      have e1 : ¬ b < c := fun z => e (.inl z)
      have e1' : ¬ d < a := fun z => e (.inr z)
      by_cases e2 : a = b ∧ c = d
      · rw [if_pos e2]
        refine .inl ⟨rfl, mem_allOf.mpr ⟨a, c, by omega, by omega, ?_⟩, fun y hy => ?_⟩
        · rw [g5_eq, if_pos (by omega)]
        · obtain ⟨u, v, h1, h2, rfl⟩ := mem_allOf.mp hy
          rw [g5_eq, if_pos (by omega)]
      · rw [if_neg e2]
        refine .inr (.inr ⟨rfl, ?_, ?_⟩)
        · by_cases e3 : a = c
          · by_cases e4 : a = b
            · exact mem_allOf.mpr ⟨a, d, by omega, by omega, by rw [g5_eq, if_neg (by omega)]⟩
            · exact mem_allOf.mpr ⟨b, c, by omega, by omega, by rw [g5_eq, if_neg (by omega)]⟩
          · exact mem_allOf.mpr ⟨a, c, by omega, by omega, by rw [g5_eq, if_neg (by omega)]⟩
        · by_cases e3 : a ≤ c
          · exact mem_allOf.mpr ⟨c, c, by omega, by omega, by rw [g5_eq, if_pos rfl]⟩
          · exact mem_allOf.mpr ⟨a, a, by omega, by omega, by rw [g5_eq, if_pos rfl]⟩
end
/-- what plus, minus, times, less and same tell -/
def toldD (a b c d : Int) : List (Int × Int) := [(clipI (a + c), clipI (b + d)), (clipI (a - d), clipI (b - c)), (clipI (lo4 a b c d), clipI (hi4 a b c d)), lessS a b c d, sameS a b c d]
end K2

namespace K2
open PySem PySem.Spec PyProof.Rows L2 GR
theorem Same.grow {H H' : Hp} {l : Addr} {o : HO} (s : Same H H') (h : H l = none) : Same H (upd H' l o) := fun b x e => by
  rw [upd_ne (ne_of_none e h)]
  exact s b x e
theorem Same.tupT {K : PySem.W.Frag} {H H' : Hp} {a : Addr} {xs : List V} (s : Same H H') (h : SqT K H a xs) : SqT K H' a xs := by
  rcases h with (h | ⟨o, h⟩) | h
  · exact .inl (.inl (s _ _ h))
  · exact .inl (.inr ⟨o, s _ _ h⟩)
  · exact .inr h
/-! ### the comprehension over clipped -/
/-- the heap in which the list at D is being made: all else of H0 as it was -/
def Made (D : Addr) (H0 : Hp) (res : List (Int × Int)) (i : Nat) (H : Hp) : Prop := Off D H0 H ∧ ∃ rs, H D = some (.lst rs) ∧ TupAll H rs (res.take i)
theorem off_seq {K : PySem.W.Frag} {D a : Addr} {H H' : Hp} {xs : List V} (s : Off D H H') (h : SqL K H a xs) (h1 : a ≠ D) : SqL K H' a xs := by
  rcases h with (h | ⟨o, h⟩) | h
  · exact .inl (.inl (s _ _ h1 h))
  · exact .inl (.inr ⟨o, s _ _ h1 h⟩)
  · exact .inr h
/-- the lists of ints that the items name, each told as res says -/
def Lists (K : PySem.W.Frag) (H : Hp) (xs : List V) (res : List (Int × Int)) : Prop := Paired (fun v d => ∃ l ns, v = .ref l ∧ H l = some (.lst (ns.map V.int)) ∧ Told ns d) xs res
theorem Paired.at {α β : Type} {F : α → β → Prop} : ∀ {l₁ : List α} {l₂ : List β} {i : Nat} {x : α}, Paired F l₁ l₂ → l₁[i]? = some x → ∃ y, l₂[i]? = some y ∧ F x y
  | _, _, _, _, .nil, h => by simp at h
  | _, _, 0, x, .cons r t, h => by
    have e := Option.some.inj h
    subst e
    exact ⟨_, rfl, r⟩
  | _, _, i + 1, x, .cons r t, h => Paired.at (i := i) t h
section
variable {P : Program} {w : World} {K : PySem.W.Frag} {mg : Str → Option Value} {base : Heap}
theorem made_turn {D : Addr} {H0 H : Hp} {xs : List V} {res : List (Int × Int)} {i : Nat} {x : V} {E : XK} (hL : Lists K H0 xs res) (hD : H0 D = none) (h8 : res.length ≤ 8) (hx : xs[i]? = some x) (hm : Made D H0 res i H) :
    sp_clipped K ([x] ++ []) H (fun y H4 => ∃ acc, H4 D = some (.lst acc) ∧ acc.length < sizeLine ∧ Made D H0 res (i + 1) (upd H4 D (.lst (acc ++ [y])))) E := by
  obtain ⟨d, hd, l, ns, rfl, hl, hne, ht⟩ := Paired.at hL hx
  obtain ⟨off, rs, hrs, hT⟩ := hm
  have nl : l ≠ D := ne_of_none hl hD
  refine ⟨l, ns, rfl, .inl (.inl (off _ _ nl hl)), hne, fun H' p m M s np m1 m2 M1 M2 hp => ?_⟩
  have hpD : p ≠ D := (ne_of_none hrs np).symm
  refine ⟨rs, s _ _ hrs, ?_, ?_, rs ++ [.ref p], upd_same, ?_⟩
  · rw [hT.length, List.length_take]
    exact small1000 (by omega)
  · intro b o nb e
    rw [upd_ne nb]
    exact s _ _ (off b o nb e)
  · rw [List.take_add_one, hd]
    refine TupAll.snoc (hT.mono fun q us e => ?_) ⟨p, rfl, ?_⟩
    · rw [upd_ne (ne_of e hrs fun z => by cases z)]
      exact s _ _ e
    · rw [upd_ne hpD, hp, ← ht m M m1 m2 M1 M2]
theorem made_end {D : Addr} {H0 H : Hp} {res : List (Int × Int)} {n : Nat} (hn : n = res.length) (hD : H0 D = none) (hm : Made D H0 res n H) : Same H0 H ∧ Due H D res := by
  subst hn
  obtain ⟨off, rs, hrs, hT⟩ := hm
  rw [List.take_length] at hT
  exact ⟨fun b o e => off b o (ne_of_none e hD) e, rs, hrs, hT⟩
theorem made_start {D : Addr} {H0 : Hp} {res : List (Int × Int)} (hD : H0 D = none) : Made D H0 res 0 (upd H0 D (.lst [])) :=
  ⟨fun b o nb e => by rw [upd_ne nb]; exact e, [], upd_same, .nil⟩
/-- what is due of two spans -/
def sp_due (K : PySem.W.Frag) (B : Int) : Sp := fun vs H Q _ => ∃ (x y : Addr) (a b c d : Int), vs = [.ref x, .ref y] ∧ SqT K H x [.int a, .int b] ∧ SqT K H y [.int c, .int d] ∧ a ≤ b ∧ c ≤ d ∧ (-B ≤ a ∧ b ≤ B) ∧ (-B ≤ c ∧ d ≤ B) ∧
  ∀ H' p, Same H H' → H p = none → Due H' p (toldD a b c d) → Q (.ref p) H'
theorem sp_due_len {B : Int} : ∀ vs H Q E, sp_due K B vs H Q E → vs.length = 2 := by
  rintro _ _ _ _ ⟨x, y, a, b, c, d, rfl, _⟩
  rfl
abbrev s_law_values : Stmt := topS 17
theorem sc_law_values : FnScope ["_law_span"] ["_law_span"] (defScope s_law_values) := ⟨rfl, rfl, rfl, by decide +kernel, rfl, by decide +kernel, by decide +kernel⟩
def sp_values (K : PySem.W.Frag) : Sp := fun vs H Q _ => ∃ (x : Addr) (a b : Int), vs = [.ref x] ∧ SqT K H x [.int a, .int b] ∧ a ≤ b ∧ (-200 ≤ a ∧ b ≤ 200) ∧
  ∀ H' p, Same H H' → H p = none → H' p = some (.lst ((rgI a (b + 1)).map V.int)) → Q (.ref p) H'
theorem ok_values {f : Addr} {fd : FuncData} {k : Nat} (F : Fun K "_law_values" "_law_values" s_law_values f fd) (mlist : mg "list" = none) (mrange : mg "range" = none) :
    FnOk P w K mg base CX0 (k + 1) f fd ["_law_span"] (sp_values K) := by
  have nd := sc_law_values.nd
  refine F.ok sc_law_values (fun vs H Q E h => ?_) (fun cdv A outer s H vs Q E hr h => ?_)
  · obtain ⟨x, a, b, rfl, _⟩ := h
    rfl
  obtain ⟨x, a, b, rfl, hx, hab, hB, q⟩ := h
  refine ⟨_, (pss_one (ps_ret (pe_listRg rfl (by rfl) mlist (prg_2 (by rfl) mrange (pe_ix ix_tup (pv 0) pe_int (fun _ _ => rfl)) (pe_op op_add (pe_ix ix_tup (pv 0) pe_int (fun _ _ => rfl)) pe_int))))), ?_⟩
  refine ⟨.ref x, rfl, x, _, 0, _, rfl, rfl, hx, at0, .ref x, rfl, x, _, 1, _, rfl, rfl, hx, at1, b, 1, rfl, rfl, a, b + 1, rfl, rfl, ⟨by omega, by omega, by omega, by omega, by omega⟩, fun p np => ?_⟩
  exact q _ p (same_upd np) np (by rw [upd_same, rgV_ints])
end
end K2

namespace K2
open PySem PySem.Spec PyProof.Rows L2 GR
/-- five lists of ints -/
structure Five (H : Hp) (l1 l2 l3 l4 l5 : Addr) (F : (Int → Int → Int) → List Int) : Prop where
  h1 : H l1 = some (.lst ((F g1).map V.int))
  h2 : H l2 = some (.lst ((F g2).map V.int))
  h3 : H l3 = some (.lst ((F g3).map V.int))
  h4 : H l4 = some (.lst ((F g4).map V.int))
  h5 : H l5 = some (.lst ((F g5).map V.int))
/-- all but the five is as it was -/
def Out5 (l1 l2 l3 l4 l5 : Addr) (H H' : Hp) : Prop := ∀ b o, b ≠ l1 → b ≠ l2 → b ≠ l3 → b ≠ l4 → b ≠ l5 → H b = some o → H' b = some o
theorem map_snoc (ns : List Int) (v : Int) : ns.map V.int ++ [V.int v] = (ns ++ [v]).map V.int := by
  rw [List.map_append]
  rfl
section
variable {P : Program} {w : World} {K : PySem.W.Frag} {mg : Str → Option Value} {base : Heap}
abbrev s_law_small_due : Stmt := topS 18
abbrev N_small_due : List Str := ["_law_one", "_law_other", "_law_sums", "_law_differences", "_law_products", "_law_lesser", "_law_alike", "_law_a", "_law_b", "_law_some"]
theorem sc_law_small_due : FnScope N_small_due ["_law_one", "_law_other"] (defScope s_law_small_due) := ⟨rfl, rfl, rfl, by decide +kernel, rfl, by decide +kernel, by decide +kernel⟩
theorem ok_small_due {f f_law_values f_law_clipped : Addr} {fd fd_law_values fd_law_clipped : FuncData} {k : Nat} (F : Fun K "_law_small_due" "_law_small_due" s_law_small_due f fd)
    (G_law_values : FnOk P w K mg base CX0 k f_law_values fd_law_values ["_law_span"] (sp_values K)) (g_law_values : mg "_law_values" = some (.ref f_law_values)) (K_law_values : PySem.W.keepIn K (.ref f_law_values) = true) (b_law_values : Binds K fd_law_values ["_law_span"] [])
    (G_law_clipped : FnOk P w K mg base CX0 k f_law_clipped fd_law_clipped ["_law_some"] (sp_clipped K)) (g_law_clipped : mg "_law_clipped" = some (.ref f_law_clipped)) (K_law_clipped : PySem.W.keepIn K (.ref f_law_clipped) = true) (b_law_clipped : Binds K fd_law_clipped ["_law_some"] [])
    (mint : mg "int" = none) : FnOk P w K mg base CX0 (k + 1) f fd ["_law_one", "_law_other"] (sp_due K 200) := by
  have nd := sc_law_small_due.nd
  refine F.ok sc_law_small_due sp_due_len (fun cdv A outer s H vs Q E hr h => ?_)
  obtain ⟨x, y, a, b, c, d, rfl, hx, hy, hab, hcd, hB, hB2, q⟩ := h
  refine ⟨_, (pss_cons (ps_asg (pe_tup (pa_cons (pe_lst pa_nil) (pa_cons (pe_lst pa_nil) (pa_cons (pe_lst pa_nil) (pa_cons (pe_lst pa_nil) (pa_cons (pe_lst pa_nil) pa_nil)))))) (pg_tup rfl (pgs_cons (pg_name (i := 2) nd rfl (Or.inl rfl)) (pgs_cons (pg_name (i := 3) nd rfl (Or.inl rfl)) (pgs_cons (pg_name (i := 4) nd rfl (Or.inl rfl)) (pgs_cons (pg_name (i := 5) nd rfl (Or.inl rfl)) (pgs_cons (pg_name (i := 6) nd rfl (Or.inl rfl)) pgs_nil)))))))
      (pss_cons (ps_for PassesOwn.never rfl (pi_list (pe_call G_law_values hr (by rfl) g_law_values K_law_values b_law_values .nil pass0 (pa_cons (pv 0) pa_nil))) (pg_name (i := 7) nd rfl (Or.inl rfl))
      (pss_one (ps_for PassesOwn.never rfl (pi_list (pe_call G_law_values hr (by rfl) g_law_values K_law_values b_law_values .nil pass0 (pa_cons (pv 1) pa_nil))) (pg_name (i := 8) nd rfl (Or.inl rfl))
        (pss_cons (ps_expr (pe_bm PySem.F.plainAttrs_list PySem.F.slot_list_append PySem.F.type_list_append mt_append (pv 2) (pa_cons (pe_op op_add (pv 7) (pv 8)) pa_nil)))
          (pss_cons (ps_expr (pe_bm PySem.F.plainAttrs_list PySem.F.slot_list_append PySem.F.type_list_append mt_append (pv 3) (pa_cons (pe_op op_sub (pv 7) (pv 8)) pa_nil)))
          (pss_cons (ps_expr (pe_bm PySem.F.plainAttrs_list PySem.F.slot_list_append PySem.F.type_list_append mt_append (pv 4) (pa_cons (pe_op op_mul (pv 7) (pv 8)) pa_nil)))
          (pss_cons (ps_expr (pe_bm PySem.F.plainAttrs_list PySem.F.slot_list_append PySem.F.type_list_append mt_append (pv 5) (pa_cons (pe_callTy call_int1 (by rfl) mint boot_int (pa_cons (pe_cmpR op_lt (pv 7) (pv 8) (nomark _)) pa_nil)) pa_nil)))
          (pss_one (ps_expr (pe_bm PySem.F.plainAttrs_list PySem.F.slot_list_append PySem.F.type_list_append mt_append (pv 6) (pa_cons (pe_callTy call_int1 (by rfl) mint boot_int (pa_cons (pe_cmpR op_eq (pv 7) (pv 8) (nomark _)) pa_nil)) pa_nil)))))))))))
      (pss_one (ps_ret (pe_lc (own := [("_law_some", 9)]) rfl nd (pi_tup (pe_tup (pa_cons (pv 2) (pa_cons (pv 3) (pa_cons (pv 4) (pa_cons (pv 5) (pa_cons (pv 6) pa_nil))))))) (blkOk_by (N := N_small_due) (sc := defScope s_law_small_due) (by decide +kernel)) (fun _ _ _ _ _ => (pg_name (i := 9) nd rfl (Or.inl rfl))) (fun _ _ _ _ _ => pts_nil) (fun _ _ _ _ _ => (pe_call G_law_clipped hr (by rfl) g_law_clipped K_law_clipped b_law_clipped .nil pass0 (pa_cons (pv 9) pa_nil)))))))), ?_⟩
  -- the five lists
  refine ⟨Nat.zero_le _, fun l1 n1 => ⟨Nat.zero_le _, fun l2 n2 => ⟨Nat.zero_le _, fun l3 n3 => ⟨Nat.zero_le _, fun l4 n4 => ⟨Nat.zero_le _, fun l5 n5 => ⟨small_le (show 5 ≤ 1000 by decide), fun t nt => ?_⟩⟩⟩⟩⟩⟩
  refine ⟨t, [.ref l1, .ref l2, .ref l3, .ref l4, .ref l5], rfl, .inl (.inl upd_same), rfl, _, _, rfl, _, _, rfl, _, _, rfl, _, _, rfl, _, _, rfl, rfl, ?_⟩
  have e1 : upd H l1 (.lst []) l1 = some (.lst []) := upd_same
  have n21 : l2 ≠ l1 := (ne_of_none e1 n2).symm
  have s2 := same_upd (o := .lst []) n2
  have s3 := same_upd (o := .lst []) n3
  have s4 := same_upd (o := .lst []) n4
  have s5 := same_upd (o := .lst []) n5
  have st := same_upd (o := .tup [.ref l1, .ref l2, .ref l3, .ref l4, .ref l5]) nt
  have e2 := s2 _ _ e1
  have e2b : upd (upd H l1 (.lst [])) l2 (.lst []) l2 = some (.lst []) := upd_same
  have n31 : l3 ≠ l1 := (ne_of_none e2 n3).symm
  have n32 : l3 ≠ l2 := (ne_of_none e2b n3).symm
  have e3 := s3 _ _ e2
  have e3b := s3 _ _ e2b
  have e3c : upd (upd (upd H l1 (.lst [])) l2 (.lst [])) l3 (.lst []) l3 = some (.lst []) := upd_same
  have n41 : l4 ≠ l1 := (ne_of_none e3 n4).symm
  have n42 : l4 ≠ l2 := (ne_of_none e3b n4).symm
  have n43 : l4 ≠ l3 := (ne_of_none e3c n4).symm
  have e4 := s4 _ _ e3
  have e4b := s4 _ _ e3b
  have e4c := s4 _ _ e3c
  have e4d : upd (upd (upd (upd H l1 (.lst [])) l2 (.lst [])) l3 (.lst [])) l4 (.lst []) l4 = some (.lst []) := upd_same
  have n51 : l5 ≠ l1 := (ne_of_none e4 n5).symm
  have n52 : l5 ≠ l2 := (ne_of_none e4b n5).symm
  have n53 : l5 ≠ l3 := (ne_of_none e4c n5).symm
  have n54 : l5 ≠ l4 := (ne_of_none e4d n5).symm
  have S0 : Same H (upd (upd (upd (upd (upd (upd H l1 (.lst [])) l2 (.lst [])) l3 (.lst [])) l4 (.lst [])) l5 (.lst [])) t (.tup [.ref l1, .ref l2, .ref l3, .ref l4, .ref l5])) :=
    (same_upd n1).trans (s2.trans (s3.trans (s4.trans (s5.trans st))))
  have m1 : H l1 = none := n1
  have m2 : H l2 = none := (same_upd n1).free n2
  have m3 : H l3 = none := ((same_upd n1).trans s2).free n3
  have m4 : H l4 = none := ((same_upd n1).trans (s2.trans s3)).free n4
  have m5 : H l5 = none := ((same_upd n1).trans (s2.trans (s3.trans s4))).free n5
  have V0 : Five (upd (upd (upd (upd (upd (upd H l1 (.lst [])) l2 (.lst [])) l3 (.lst [])) l4 (.lst [])) l5 (.lst [])) t (.tup [.ref l1, .ref l2, .ref l3, .ref l4, .ref l5])) l1 l2 l3 l4 l5 (fun _ => []) :=
    ⟨st _ _ (s5 _ _ e4), st _ _ (s5 _ _ e4b), st _ _ (s5 _ _ e4c), st _ _ (s5 _ _ e4d), st _ _ upd_same⟩
  -- the loop over the values of the first span
  refine ⟨.ref x, rfl, x, a, b, rfl, Same.tupT S0 hx, hab, hB, fun Hb v1 sb nv1 hv1 => ?_⟩
  have Vb : Five Hb l1 l2 l3 l4 l5 (fun _ => []) := ⟨sb _ _ V0.h1, sb _ _ V0.h2, sb _ _ V0.h3, sb _ _ V0.h4, sb _ _ V0.h5⟩
  have Sb := S0.trans sb
  have w1 : v1 ≠ l1 := (ne_of_none V0.h1 nv1).symm
  have w2 : v1 ≠ l2 := (ne_of_none V0.h2 nv1).symm
  have w3 : v1 ≠ l3 := (ne_of_none V0.h3 nv1).symm
  have w4 : v1 ≠ l4 := (ne_of_none V0.h4 nv1).symm
  have w5 : v1 ≠ l5 := (ne_of_none V0.h5 nv1).symm
  have keepH : ∀ {H'}, Out5 l1 l2 l3 l4 l5 Hb H' → Same H H' := fun k b o e => k b o (ne_of_none e m1) (ne_of_none e m2) (ne_of_none e m3) (ne_of_none e m4) (ne_of_none e m5) (Sb b o e)
  have lenx : (rgI a (b + 1)).length ≤ 401 := by
    rw [rgI_length]
    omega
  have leny : (rgI c (d + 1)).length ≤ 401 := by
    rw [rgI_length]
    omega
  refine ⟨v1, rfl, ⟨_, .inl (.inl hv1)⟩, ?_⟩
  refine for_list (xs := (rgI a (b + 1)).map V.int) (fun i σ H' => ∃ y7 y8, σ = [some (.ref x), some (.ref y), some (.ref l1), some (.ref l2), some (.ref l3), some (.ref l4), some (.ref l5), y7, y8, none] ∧ Five H' l1 l2 l3 l4 l5 (fun g => cross g (rgI c (d + 1)) ((rgI a (b + 1)).take i)) ∧ Out5 l1 l2 l3 l4 l5 Hb H') ?_ ?_ ?_ ?_
  · exact ⟨none, none, rfl, Vb, fun b o _ _ _ _ _ e => e⟩
  · rintro i σ H' _ ⟨y7, y8, _, _, k⟩
    exact .inl (.inl (k _ _ w1 w2 w3 w4 w5 hv1))
  · rintro i u σ H' hu ⟨y7, y8, rfl, U, k⟩
    rw [List.getElem?_map] at hu
    obtain ⟨ux, hux, rfl⟩ := Option.map_eq_some_iff.mp hu
    refine ⟨.ref y, rfl, y, c, d, rfl, Same.tupT (keepH k) hy, hcd, hB2, fun H3 v2 s3' nv2 hv2 => ?_⟩
    have z1 : v2 ≠ l1 := (ne_of_none U.h1 nv2).symm
    have z2 : v2 ≠ l2 := (ne_of_none U.h2 nv2).symm
    have z3 : v2 ≠ l3 := (ne_of_none U.h3 nv2).symm
    have z4 : v2 ≠ l4 := (ne_of_none U.h4 nv2).symm
    have z5 : v2 ≠ l5 := (ne_of_none U.h5 nv2).symm
    refine ⟨v2, rfl, ⟨_, .inl (.inl hv2)⟩, ?_⟩
    refine for_list (xs := (rgI c (d + 1)).map V.int) (fun j σ H' => ∃ y8, σ = [some (.ref x), some (.ref y), some (.ref l1), some (.ref l2), some (.ref l3), some (.ref l4), some (.ref l5), some (.int ux), y8, none] ∧ Five H' l1 l2 l3 l4 l5 (fun g => cross g (rgI c (d + 1)) ((rgI a (b + 1)).take i) ++ ((rgI c (d + 1)).take j).map (g ux)) ∧ Out5 l1 l2 l3 l4 l5 H3 H') ?_ ?_ ?_ ?_
    · refine ⟨y8, rfl, ?_, fun b o _ _ _ _ _ e => e⟩
      refine ⟨?_, ?_, ?_, ?_, ?_⟩
      · rw [List.take_zero, List.map_nil, List.append_nil]; exact s3' _ _ U.h1
      · rw [List.take_zero, List.map_nil, List.append_nil]; exact s3' _ _ U.h2
      · rw [List.take_zero, List.map_nil, List.append_nil]; exact s3' _ _ U.h3
      · rw [List.take_zero, List.map_nil, List.append_nil]; exact s3' _ _ U.h4
      · rw [List.take_zero, List.map_nil, List.append_nil]; exact s3' _ _ U.h5
    · rintro j σ H' _ ⟨y8, _, _, k'⟩
      exact .inl (.inl (k' _ _ z1 z2 z3 z4 z5 hv2))
    · rintro j u σ H4 hu4 ⟨y8', rfl, V4, k4⟩
      rw [List.getElem?_map] at hu4
      obtain ⟨uy, huy, rfl⟩ := Option.map_eq_some_iff.mp hu4
      have bx := mem_rgI.mp (List.mem_of_getElem? hux)
      have len : ∀ g, ((cross g (rgI c (d + 1)) ((rgI a (b + 1)).take i) ++ ((rgI c (d + 1)).take j).map (g ux)).map V.int).length < sizeLine := by
        intro g
        rw [List.length_map, List.length_append, List.length_map, cross_length, List.length_take, List.length_take, sizeLine_eq]
        have p1 : min i (rgI a (b + 1)).length * (rgI c (d + 1)).length ≤ 401 * 401 := Nat.mul_le_mul (by omega) leny
        omega
      refine ⟨.ref l1, rfl, .inl ⟨rfl, _, .inl (.inl V4.h1)⟩, .int ux, rfl, .int uy, rfl, ux, uy, rfl, rfl, l1, _, _, rfl, rfl, V4.h1, len g1, ?_⟩
      refine ⟨.ref l2, rfl, .inl ⟨rfl, _, .inl (.inl ((upd_ne n21).trans V4.h2))⟩, .int ux, rfl, .int uy, rfl, ux, uy, rfl, rfl, l2, _, _, rfl, rfl, (upd_ne n21).trans V4.h2, len g2, ?_⟩
      have f3 := (upd_ne (o := .lst (((cross g2 (rgI c (d + 1)) ((rgI a (b + 1)).take i) ++ ((rgI c (d + 1)).take j).map (g2 ux)).map V.int) ++ [.int (ux - uy)])) n32).trans ((upd_ne (o := .lst (((cross g1 (rgI c (d + 1)) ((rgI a (b + 1)).take i) ++ ((rgI c (d + 1)).take j).map (g1 ux)).map V.int) ++ [.int (ux + uy)])) n31).trans V4.h3)
      refine ⟨.ref l3, rfl, .inl ⟨rfl, _, .inl (.inl f3)⟩, .int ux, rfl, .int uy, rfl, ux, uy, rfl, rfl, .inl ⟨by omega, by omega⟩, l3, _, _, rfl, rfl, f3, len g3, ?_⟩
      have f4 := (upd_ne (o := .lst (((cross g3 (rgI c (d + 1)) ((rgI a (b + 1)).take i) ++ ((rgI c (d + 1)).take j).map (g3 ux)).map V.int) ++ [.int (ux * uy)])) n43).trans ((upd_ne (o := .lst (((cross g2 (rgI c (d + 1)) ((rgI a (b + 1)).take i) ++ ((rgI c (d + 1)).take j).map (g2 ux)).map V.int) ++ [.int (ux - uy)])) n42).trans ((upd_ne (o := .lst (((cross g1 (rgI c (d + 1)) ((rgI a (b + 1)).take i) ++ ((rgI c (d + 1)).take j).map (g1 ux)).map V.int) ++ [.int (ux + uy)])) n41).trans V4.h4))
      refine ⟨.ref l4, rfl, .inl ⟨rfl, _, .inl (.inl f4)⟩, .int ux, rfl, .int uy, rfl, ux, uy, rfl, rfl, .inr ⟨_, rfl, l4, _, _, rfl, rfl, f4, len g4, ?_⟩⟩
      have f5 := (upd_ne (o := .lst (((cross g4 (rgI c (d + 1)) ((rgI a (b + 1)).take i) ++ ((rgI c (d + 1)).take j).map (g4 ux)).map V.int) ++ [.int (g4 ux uy)])) n54).trans ((upd_ne (o := .lst (((cross g3 (rgI c (d + 1)) ((rgI a (b + 1)).take i) ++ ((rgI c (d + 1)).take j).map (g3 ux)).map V.int) ++ [.int (ux * uy)])) n53).trans ((upd_ne (o := .lst (((cross g2 (rgI c (d + 1)) ((rgI a (b + 1)).take i) ++ ((rgI c (d + 1)).take j).map (g2 ux)).map V.int) ++ [.int (ux - uy)])) n52).trans ((upd_ne (o := .lst (((cross g1 (rgI c (d + 1)) ((rgI a (b + 1)).take i) ++ ((rgI c (d + 1)).take j).map (g1 ux)).map V.int) ++ [.int (ux + uy)])) n51).trans V4.h5)))
      refine ⟨.ref l5, rfl, .inl ⟨rfl, _, .inl (.inl f5)⟩, .int ux, rfl, .int uy, rfl, rfl, .inr ⟨_, rfl, l5, _, _, rfl, rfl, f5, len g5, ?_⟩⟩
      have tk : ∀ g : Int → Int → Int, ((cross g (rgI c (d + 1)) ((rgI a (b + 1)).take i) ++ ((rgI c (d + 1)).take j).map (g ux)).map V.int) ++ [V.int (g ux uy)] = (cross g (rgI c (d + 1)) ((rgI a (b + 1)).take i) ++ ((rgI c (d + 1)).take (j + 1)).map (g ux)).map V.int := by
        intro g
        rw [map_snoc, List.take_add_one, huy]
        simp
      refine ⟨some (.int uy), rfl, ⟨?_, ?_, ?_, ?_, ?_⟩, ?_⟩
      · rw [upd_ne n51.symm, upd_ne n41.symm, upd_ne n31.symm, upd_ne n21.symm, upd_same]
        exact congrArg (fun z => some (HO.lst z)) (tk g1)
      · rw [upd_ne n52.symm, upd_ne n42.symm, upd_ne n32.symm, upd_same]
        exact congrArg (fun z => some (HO.lst z)) (tk g2)
      · rw [upd_ne n53.symm, upd_ne n43.symm, upd_same]
        exact congrArg (fun z => some (HO.lst z)) (tk g3)
      · rw [upd_ne n54.symm, upd_same]
        exact congrArg (fun z => some (HO.lst z)) (tk g4)
      · rw [upd_same]
        exact congrArg (fun z => some (HO.lst z)) (tk g5)
      · intro p o p1 p2 p3 p4 p5 e
        rw [upd_ne p5, upd_ne p4, upd_ne p3, upd_ne p2, upd_ne p1]
        exact k4 p o p1 p2 p3 p4 p5 e
    · rintro σ H4 ⟨y8', rfl, V4, k4⟩
      have tk : ∀ g : Int → Int → Int, cross g (rgI c (d + 1)) ((rgI a (b + 1)).take i) ++ ((rgI c (d + 1)).take ((rgI c (d + 1)).map V.int).length).map (g ux) = cross g (rgI c (d + 1)) ((rgI a (b + 1)).take (i + 1)) := by
        intro g
        rw [cross_snoc g _ hux, List.length_map, List.take_length]
      refine ⟨some (.int ux), y8', rfl, ⟨?_, ?_, ?_, ?_, ?_⟩, ?_⟩
      · rw [← tk]; exact V4.h1
      · rw [← tk]; exact V4.h2
      · rw [← tk]; exact V4.h3
      · rw [← tk]; exact V4.h4
      · rw [← tk]; exact V4.h5
      · intro p o p1 p2 p3 p4 p5 e
        exact k4 p o p1 p2 p3 p4 p5 (s3' _ _ (k p o p1 p2 p3 p4 p5 e))
  · rintro σ H' ⟨y7, y8, rfl, U, k⟩
    have tk : ∀ g : Int → Int → Int, cross g (rgI c (d + 1)) ((rgI a (b + 1)).take ((rgI a (b + 1)).map V.int).length) = allOf g a b c d := by
      intro g
      rw [List.length_map, List.take_length]
      rfl
    have V' : Five H' l1 l2 l3 l4 l5 (fun g => allOf g a b c d) := ⟨by rw [← tk]; exact U.h1, by rw [← tk]; exact U.h2, by rw [← tk]; exact U.h3, by rw [← tk]; exact U.h4, by rw [← tk]; exact U.h5⟩
    refine ⟨.ref l1, rfl, .ref l2, rfl, .ref l3, rfl, .ref l4, rfl, .ref l5, rfl, small_le (show 5 ≤ 1000 by decide), fun tt ntt => ?_⟩
    have sT := same_upd (o := .tup [.ref l1, .ref l2, .ref l3, .ref l4, .ref l5]) ntt
    refine ⟨tt, rfl, ⟨_, .inl (.inl upd_same)⟩, fun D nD => ?_⟩
    have hL : Lists K (upd H' tt (.tup [.ref l1, .ref l2, .ref l3, .ref l4, .ref l5])) [.ref l1, .ref l2, .ref l3, .ref l4, .ref l5] (toldD a b c d) :=
      .cons ⟨l1, _, rfl, sT _ _ V'.h1, told1 hab hcd⟩ (.cons ⟨l2, _, rfl, sT _ _ V'.h2, told2 hab hcd⟩ (.cons ⟨l3, _, rfl, sT _ _ V'.h3, told3 hab hcd⟩ (.cons ⟨l4, _, rfl, sT _ _ V'.h4, told4 hab hcd⟩ (.cons ⟨l5, _, rfl, sT _ _ V'.h5, told5 hab hcd⟩ .nil))))
    have hTT : upd H' tt (.tup [.ref l1, .ref l2, .ref l3, .ref l4, .ref l5]) tt = some (.tup [.ref l1, .ref l2, .ref l3, .ref l4, .ref l5]) := upd_same
    refine lc_tup (xs := [.ref l1, .ref l2, .ref l3, .ref l4, .ref l5]) (Made D (upd H' tt (.tup [.ref l1, .ref l2, .ref l3, .ref l4, .ref l5])) (toldD a b c d)) (made_start nD) ?_ ?_ ?_
    · rintro i H5 _ ⟨off, _⟩
      exact .inl (.inl (off _ _ (ne_of_none hTT nD) hTT))
    · intro i u H5 hu hm
      exact ⟨rfl, yes_then ⟨u, rfl, made_turn (E := E0) hL nD (show 5 ≤ 8 by decide) hu hm⟩⟩
    · intro H5 hm
      obtain ⟨sm, due⟩ := made_end (show 5 = (toldD a b c d).length from rfl) nD hm
      exact q H5 D ((keepH k).trans (sT.trans sm)) ((keepH k).free (sT.free nD)) due
end
end K2

namespace K2
open PySem PySem.Spec PyProof.Rows L2 GR
def bit (b : Bool) : Int := if b = true then 1 else 0
section
variable {a b c d : Int} (hab : a ≤ b) (hcd : c ≤ d)
include hab hcd
theorem gold1 : Told [a + c, b + d] (clipI (a + c), clipI (b + d)) := by
  refine told_of (by simp) (by simp) ?_ ?_ <;> (intro y hy; simp only [List.mem_cons, List.not_mem_nil, or_false] at hy; omega)
theorem gold2 : Told [a - d, b - c] (clipI (a - d), clipI (b - c)) := by
  refine told_of (by simp) (by simp) ?_ ?_ <;> (intro y hy; simp only [List.mem_cons, List.not_mem_nil, or_false] at hy; omega)
omit hab hcd in
theorem gold3 : Told [a * c, a * d, b * c, b * d] (clipI (lo4 a b c d), clipI (hi4 a b c d)) := by
  refine told_of ?_ ?_ ?_ ?_
  · have : lo4 a b c d = a * c ∨ lo4 a b c d = a * d ∨ lo4 a b c d = b * c ∨ lo4 a b c d = b * d := by
      unfold lo4
      omega
    simpa using this
  · have : hi4 a b c d = a * c ∨ hi4 a b c d = a * d ∨ hi4 a b c d = b * c ∨ hi4 a b c d = b * d := by
      unfold hi4
      omega
    simpa using this
  all_goals
    intro y hy
    simp only [List.mem_cons, List.not_mem_nil, or_false] at hy
    simp only [lo4, hi4]
    omega
theorem gold4 : Told [bit (decide (b < c)), bit (decide (a < d))] (lessS a b c d) := by
  refine told_bits ?_ ?_
  · intro y hy
    simp only [List.mem_cons, List.not_mem_nil, or_false] at hy
    unfold bit at hy
    rcases hy with rfl | rfl <;> split <;> simp
  · unfold lessS
    by_cases e : b < c
    · have e2 : a < d := by omega
      rw [if_pos e, decide_eq_true e, decide_eq_true e2]
      exact .inl ⟨rfl, by simp [bit], by simp [bit]⟩
    · by_cases e2 : d ≤ a
      · have e3 : ¬ a < d := by omega
        rw [if_neg e, if_pos e2, decide_eq_false e, decide_eq_false e3]
        exact .inr (.inl ⟨rfl, by simp [bit], by simp [bit]⟩)
      · have e3 : a < d := by omega
        rw [if_neg e, if_neg e2, decide_eq_false e, decide_eq_true e3]
        exact .inr (.inr ⟨rfl, by simp [bit], by simp [bit]⟩)
theorem gold5 (p q : Bool) (hp : p = decide (a = b ∧ c = d ∧ a = c)) (hq : q = decide (¬ b < c ∧ ¬ d < a)) : Told [bit p, bit q] (sameS a b c d) := by
  subst hp hq
  refine told_bits ?_ ?_
  · intro y hy
    simp only [List.mem_cons, List.not_mem_nil, or_false] at hy
    unfold bit at hy
    rcases hy with rfl | rfl <;> split <;> simp
  · unfold sameS
    by_cases e : b < c ∨ d < a
    · have e2 : ¬ (¬ b < c ∧ ¬ d < a) := by omega
      have e3 : ¬ (a = b ∧ c = d ∧ a = c) := by omega
      rw [if_pos e, decide_eq_false e2, decide_eq_false e3]
      exact .inr (.inl ⟨rfl, by simp [bit], by simp [bit]⟩)
    · have e2 : ¬ b < c ∧ ¬ d < a := by omega
      by_cases e4 : a = b ∧ c = d
      · have e3 : a = b ∧ c = d ∧ a = c := by omega
        rw [if_neg e, if_pos e4, decide_eq_true e2, decide_eq_true e3]
        exact .inl ⟨rfl, by simp [bit], by simp [bit]⟩
      · have e3 : ¬ (a = b ∧ c = d ∧ a = c) := fun z => e4 ⟨z.1, z.2.1⟩
        rw [if_neg e, if_neg e4, decide_eq_true e2, decide_eq_false e3]
        exact .inr (.inr ⟨rfl, by simp [bit], by simp [bit]⟩)
end
section
variable {P : Program} {w : World} {K : PySem.W.Frag} {mg : Str → Option Value} {base : Heap}
abbrev s_law_great_due : Stmt := topS 19
abbrev N_great_due : List Str := ["_law_one", "_law_other", "_law_a", "_law_b", "_law_c", "_law_d", "_law_found", "_law_some"]
theorem sc_law_great_due : FnScope N_great_due ["_law_one", "_law_other"] (defScope s_law_great_due) := ⟨rfl, rfl, rfl, by decide +kernel, rfl, by decide +kernel, by decide +kernel⟩
theorem ok_great_due {f f_law_clipped : Addr} {fd fd_law_clipped : FuncData} {k : Nat} (F : Fun K "_law_great_due" "_law_great_due" s_law_great_due f fd)
    (G_law_clipped : FnOk P w K mg base CX0 k f_law_clipped fd_law_clipped ["_law_some"] (sp_clipped K)) (g_law_clipped : mg "_law_clipped" = some (.ref f_law_clipped)) (K_law_clipped : PySem.W.keepIn K (.ref f_law_clipped) = true) (b_law_clipped : Binds K fd_law_clipped ["_law_some"] [])
    (mint : mg "int" = none) : FnOk P w K mg base CX0 (k + 1) f fd ["_law_one", "_law_other"] (sp_due K LIM) := by
  have nd := sc_law_great_due.nd
  refine F.ok sc_law_great_due sp_due_len (fun cdv A outer s H vs Q E hr h => ?_)
  obtain ⟨x, y, a, b, c, d, rfl, hx, hy, hab, hcd, hB, hB2, q⟩ := h
  have hL : LIM = 1000000000000000000 := rfl
  refine ⟨_, (pss_cons (ps_asg (pe_op op_catT (pv 0) (pv 1)) (pg_tup rfl (pgs_cons (pg_name (i := 2) nd rfl (Or.inl rfl)) (pgs_cons (pg_name (i := 3) nd rfl (Or.inl rfl)) (pgs_cons (pg_name (i := 4) nd rfl (Or.inl rfl)) (pgs_cons (pg_name (i := 5) nd rfl (Or.inl rfl)) pgs_nil))))))
      (pss_cons (ps_set (i := 6) nd rfl (.inl rfl) (pe_lst (pa_cons (pe_lst (pa_cons (pe_op op_add (pv 2) (pv 4)) (pa_cons (pe_op op_add (pv 3) (pv 5)) pa_nil))) (pa_cons (pe_lst (pa_cons (pe_op op_sub (pv 2) (pv 5)) (pa_cons (pe_op op_sub (pv 3) (pv 4)) pa_nil))) (pa_cons (pe_lst (pa_cons (pe_op op_mul (pv 2) (pv 4)) (pa_cons (pe_op op_mul (pv 2) (pv 5)) (pa_cons (pe_op op_mul (pv 3) (pv 4)) (pa_cons (pe_op op_mul (pv 3) (pv 5)) pa_nil))))) pa_nil)))))
      (Evl.pss_cut (ps_expr (pe_bm PySem.F.plainAttrs_list PySem.F.slot_list_append PySem.F.type_list_append mt_append (pv 6) (pa_cons (pe_lst (pa_cons (pe_callTy call_int1 (by rfl) mint boot_int (pa_cons (pe_cmpR op_lt (pv 3) (pv 4) (nomark _)) pa_nil)) (pa_cons (pe_callTy call_int1 (by rfl) mint boot_int (pa_cons (pe_cmpR op_lt (pv 2) (pv 5) (nomark _)) pa_nil)) pa_nil))) pa_nil)))
      (pss_cons (ps_expr (pe_bm PySem.F.plainAttrs_list PySem.F.slot_list_append PySem.F.type_list_append mt_append (pv 6) (pa_cons (pe_lst (pa_cons (pe_callTy call_int1 (by rfl) mint boot_int (pa_cons (pe_and (pe_cmpR op_eq (pv 2) (pv 3) (nomark _)) (pe_and (pe_cmpR op_eq (pv 4) (pv 5) (nomark _)) (pe_one (pe_cmpR op_eq (pv 2) (pv 4) (nomark _))))) pa_nil)) (pa_cons (pe_callTy call_int1 (by rfl) mint boot_int (pa_cons (pe_and (pe_not (pe_cmpR op_lt (pv 3) (pv 4) (nomark _))) (pe_one (pe_not (pe_cmpR op_lt (pv 5) (pv 2) (nomark _))))) pa_nil)) pa_nil))) pa_nil)))
      (pss_one (ps_ret (pe_lc (own := [("_law_some", 7)]) rfl nd (pi_list (pv 6)) (blkOk_by (N := N_great_due) (sc := defScope s_law_great_due) (by decide +kernel)) (fun _ _ _ _ _ => (pg_name (i := 7) nd rfl (Or.inl rfl))) (fun _ _ _ _ _ => pts_nil) (fun _ _ _ _ _ => (pe_call G_law_clipped hr (by rfl) g_law_clipped K_law_clipped b_law_clipped .nil pass0 (pa_cons (pv 7) pa_nil)))))))))), ?_⟩
  refine ⟨.ref x, rfl, .ref y, rfl, x, y, [.int a, .int b], [.int c, .int d], rfl, rfl, hx, hy, List.cons_ne_nil _ _, small_le (show 4 ≤ 1000 by decide), (fun z => nomatch z), fun _ t nt => ?_⟩
  have st := same_upd (o := .tup [.int a, .int b, .int c, .int d]) nt
  refine ⟨t, [.int a, .int b, .int c, .int d], rfl, .inl (.inl upd_same), rfl, _, _, rfl, _, _, rfl, _, _, rfl, _, _, rfl, rfl, ?_⟩
  -- the three lists, and the list of them
  refine ⟨.int a, rfl, .int c, rfl, a, c, rfl, rfl, .int b, rfl, .int d, rfl, b, d, rfl, rfl, le2, fun l1 n1 => ?_⟩
  have s1 := same_upd (o := .lst [.int (a + c), .int (b + d)]) n1
  refine ⟨.int a, rfl, .int d, rfl, a, d, rfl, rfl, .int b, rfl, .int c, rfl, b, c, rfl, rfl, le2, fun l2 n2 => ?_⟩
  have s2 := same_upd (o := .lst [.int (a - d), .int (b - c)]) n2
  refine ⟨.int a, rfl, .int c, rfl, a, c, rfl, rfl, .inl ⟨by omega, by omega⟩, .int a, rfl, .int d, rfl, a, d, rfl, rfl, .inl ⟨by omega, by omega⟩, .int b, rfl, .int c, rfl, b, c, rfl, rfl, .inl ⟨by omega, by omega⟩, .int b, rfl, .int d, rfl, b, d, rfl, rfl, .inl ⟨by omega, by omega⟩, small_le (show 4 ≤ 1000 by decide), fun l3 n3 => ?_⟩
  have s3 := same_upd (o := .lst [.int (a * c), .int (a * d), .int (b * c), .int (b * d)]) n3
  refine ⟨small_le (show 3 ≤ 1000 by decide), fun l nl => ?_⟩
  have sl := same_upd (o := .lst [.ref l1, .ref l2, .ref l3]) nl
  have hl0 : upd (upd (upd (upd (upd H t (.tup [.int a, .int b, .int c, .int d])) l1 (.lst [.int (a + c), .int (b + d)])) l2 (.lst [.int (a - d), .int (b - c)])) l3 (.lst [.int (a * c), .int (a * d), .int (b * c), .int (b * d)])) l (.lst [.ref l1, .ref l2, .ref l3]) l = some (.lst [.ref l1, .ref l2, .ref l3]) := upd_same
  have f1 := sl _ _ (s3 _ _ (s2 _ _ (show upd _ l1 (.lst [.int (a + c), .int (b + d)]) l1 = _ from upd_same)))
  have f2 := sl _ _ (s3 _ _ (show upd _ l2 (.lst [.int (a - d), .int (b - c)]) l2 = _ from upd_same))
  have f3 := sl _ _ (show upd _ l3 (.lst [.int (a * c), .int (a * d), .int (b * c), .int (b * d)]) l3 = _ from upd_same)
  have SL : Same H _ := st.trans (s1.trans (s2.trans (s3.trans sl)))
  have ml : H l = none := (st.trans (s1.trans (s2.trans s3))).free nl
  have nl1 : l1 ≠ l := ne_of_none (s3 _ _ (s2 _ _ (show upd _ l1 (.lst [.int (a + c), .int (b + d)]) l1 = _ from upd_same))) nl
  have nl2 : l2 ≠ l := ne_of_none (s3 _ _ (show upd _ l2 (.lst [.int (a - d), .int (b - c)]) l2 = _ from upd_same)) nl
  have nl3 : l3 ≠ l := ne_of_none (show upd _ l3 (.lst [.int (a * c), .int (a * d), .int (b * c), .int (b * d)]) l3 = _ from upd_same) nl
  -- found.append([..])
  refine ⟨fun σ' H' => σ' = [some (.ref x), some (.ref y), some (.int a), some (.int b), some (.int c), some (.int d), some (.ref l), none] ∧ Same H H' ∧ ∃ l4, H' l = some (.lst [.ref l1, .ref l2, .ref l3, .ref l4]) ∧ H' l1 = some (.lst ([a + c, b + d].map V.int)) ∧ H' l2 = some (.lst ([a - d, b - c].map V.int)) ∧
      H' l3 = some (.lst ([a * c, a * d, b * c, b * d].map V.int)) ∧ H' l4 = some (.lst ([bit (decide (b < c)), bit (decide (a < d))].map V.int)) ∧ l4 ≠ l, ?_, ?_⟩
  · refine ⟨.ref l, rfl, .inl ⟨rfl, _, .inl (.inl hl0)⟩, .int b, rfl, .int c, rfl, b, c, rfl, rfl, .inr ⟨_, rfl, .int a, rfl, .int d, rfl, a, d, rfl, rfl, .inr ⟨_, rfl, le2, fun l4 n4 => ?_⟩⟩⟩
    have s4 := same_upd (o := .lst [.int (bit (decide (b < c))), .int (bit (decide (a < d)))]) n4
    have n4l : l4 ≠ l := (ne_of_none hl0 n4).symm
    refine ⟨l, _, _, rfl, rfl, s4 _ _ hl0, small1000 (show 3 ≤ 1000 by decide), rfl, Same.grow (SL.trans s4) ml, l4, upd_same, ?_, ?_, ?_, ?_, n4l⟩
    · rw [upd_ne nl1]; exact s4 _ _ f1
    · rw [upd_ne nl2]; exact s4 _ _ f2
    · rw [upd_ne nl3]; exact s4 _ _ f3
    · rw [upd_ne n4l]; exact upd_same
  · rintro σ' H5 ⟨rfl, S5, l4, hl, i1, i2, i3, i4, nl4⟩
    have LEAF : ∀ p q' : Bool, p = decide (a = b ∧ c = d ∧ a = c) → q' = decide (¬ b < c ∧ ¬ d < a) → 2 ≤ sizeLine ∧ ∀ l5, H5 l5 = none → ∃ l0 xs y0, V.ref l = .ref l0 ∧ [V.ref l5] = [y0] ∧ upd H5 l5 (.lst [.int (bit p), .int (bit q')]) l0 = some (.lst xs) ∧ xs.length < sizeLine ∧
        tLc (iList K (tVar 6)) (gName 7) tYes (tCall (sp_clipped K) [] E0 (tCons (tVar 7) tNil)) [7] [some (.ref x), some (.ref y), some (.int a), some (.int b), some (.int c), some (.int d), some (.ref l), none] (upd (upd H5 l5 (.lst [.int (bit p), .int (bit q')])) l0 (.lst (xs ++ [y0]))) Q := by
      intro p q' hp hq
      refine ⟨le2, fun l5 n5 => ⟨l, _, _, rfl, rfl, same_upd n5 _ _ hl, small1000 (show 4 ≤ 1000 by decide), ?_⟩⟩
      have s5 := same_upd (o := .lst [.int (bit p), .int (bit q')]) n5
      have nl5 : l5 ≠ l := (ne_of_none hl n5).symm
      have hf : upd (upd H5 l5 (.lst [.int (bit p), .int (bit q')])) l (.lst [.ref l1, .ref l2, .ref l3, .ref l4, .ref l5]) l = some (.lst [.ref l1, .ref l2, .ref l3, .ref l4, .ref l5]) := upd_same
      have hL : Lists K (upd (upd H5 l5 (.lst [.int (bit p), .int (bit q')])) l (.lst [.ref l1, .ref l2, .ref l3, .ref l4, .ref l5])) [.ref l1, .ref l2, .ref l3, .ref l4, .ref l5] (toldD a b c d) := by
        refine .cons ⟨l1, _, rfl, ?_, gold1 hab hcd⟩ (.cons ⟨l2, _, rfl, ?_, gold2 hab hcd⟩ (.cons ⟨l3, _, rfl, ?_, gold3⟩ (.cons ⟨l4, _, rfl, ?_, gold4 hab hcd⟩ (.cons ⟨l5, _, rfl, ?_, gold5 hab hcd p q' hp hq⟩ .nil))))
        · rw [upd_ne nl1]; exact s5 _ _ i1
        · rw [upd_ne nl2]; exact s5 _ _ i2
        · rw [upd_ne nl3]; exact s5 _ _ i3
        · rw [upd_ne nl4]; exact s5 _ _ i4
        · rw [upd_ne nl5]; exact upd_same
      refine ⟨.ref l, rfl, l, rfl, ⟨_, .inl (.inl hf)⟩, fun D nD => ?_⟩
      refine lc_list (xs := [.ref l1, .ref l2, .ref l3, .ref l4, .ref l5]) (Made D (upd (upd H5 l5 (.lst [.int (bit p), .int (bit q')])) l (.lst [.ref l1, .ref l2, .ref l3, .ref l4, .ref l5])) (toldD a b c d)) (made_start nD) ?_ ?_ ?_
      · rintro i H6 _ ⟨off, _⟩
        exact .inl (.inl (off _ _ (ne_of_none hf nD) hf))
      · intro i u H6 hu hm
        exact ⟨rfl, yes_then ⟨u, rfl, made_turn (E := E0) hL nD (show 5 ≤ 8 by decide) hu hm⟩⟩
      · intro H6 hm
        obtain ⟨sm, due⟩ := made_end (show 5 = (toldD a b c d).length from rfl) nD hm
        have S6 : Same H (upd (upd H5 l5 (.lst [.int (bit p), .int (bit q')])) l (.lst [.ref l1, .ref l2, .ref l3, .ref l4, .ref l5])) := Same.grow (S5.trans s5) ml
        exact q H6 D (S6.trans sm) (S6.free nD) due
    refine ⟨.ref l, rfl, .inl ⟨rfl, _, .inl (.inl hl)⟩, ?_⟩
    have w1 : decide (V.int a = V.int b) = true → decide (V.int c = V.int d) = true → decide (V.int a = V.int c) = decide (a = b ∧ c = d ∧ a = c) := by
      intro e1 e2
      have e1 := V.int.inj (of_decide_eq_true e1)
      have e2 := V.int.inj (of_decide_eq_true e2)
      by_cases e3 : a = c
      · rw [decide_eq_true (congrArg V.int e3), decide_eq_true ⟨e1, e2, e3⟩]
      · rw [decide_eq_false (fun z => e3 (V.int.inj z)), decide_eq_false (fun z => e3 z.2.2)]
    have w2 : ¬ decide (V.int c = V.int d) = true → false = decide (a = b ∧ c = d ∧ a = c) := fun e => (decide_eq_false (fun z => e (decide_eq_true (congrArg V.int z.2.1)))).symm
    have w3 : ¬ decide (V.int a = V.int b) = true → false = decide (a = b ∧ c = d ∧ a = c) := fun e => (decide_eq_false (fun z => e (decide_eq_true (congrArg V.int z.1)))).symm
    by_cases q1 : b < c
    · have lf := fun p hp => LEAF p false hp (decide_eq_false (fun z => z.1 q1)).symm
      refine ⟨.int a, rfl, .int b, rfl, rfl, _, rfl, ite2 (fun e1 => ⟨.int c, rfl, .int d, rfl, rfl, _, rfl, ite2 (fun e2 => ⟨.int a, rfl, .int c, rfl, rfl, .inr ⟨_, rfl, .int b, rfl, .int c, rfl, b, c, rfl, rfl, _, rfl, _, rfl, ?_⟩⟩) (fun e2 => .inr ⟨_, rfl, .int b, rfl, .int c, rfl, b, c, rfl, rfl, _, rfl, _, rfl, ?_⟩)⟩) (fun e1 => .inr ⟨_, rfl, .int b, rfl, .int c, rfl, b, c, rfl, rfl, _, rfl, _, rfl, ?_⟩)⟩
      all_goals rw [decide_eq_true q1]
      · exact iteF (.inr ⟨_, rfl, lf _ (w1 e1 e2)⟩)
      · exact iteF (.inr ⟨_, rfl, lf _ (w2 e2)⟩)
      · exact iteF (.inr ⟨_, rfl, lf _ (w3 e1)⟩)
    · have lf : ∀ p, p = decide (a = b ∧ c = d ∧ a = c) → _ := fun p hp => LEAF p (!decide (d < a)) hp (by
        by_cases q2 : d < a
        · rw [decide_eq_true q2, decide_eq_false (fun z => z.2 q2)]; rfl
        · rw [decide_eq_false q2, decide_eq_true ⟨q1, q2⟩]; rfl)
      refine ⟨.int a, rfl, .int b, rfl, rfl, _, rfl, ite2 (fun e1 => ⟨.int c, rfl, .int d, rfl, rfl, _, rfl, ite2 (fun e2 => ⟨.int a, rfl, .int c, rfl, rfl, .inr ⟨_, rfl, .int b, rfl, .int c, rfl, b, c, rfl, rfl, _, rfl, _, rfl, ?_⟩⟩) (fun e2 => .inr ⟨_, rfl, .int b, rfl, .int c, rfl, b, c, rfl, rfl, _, rfl, _, rfl, ?_⟩)⟩) (fun e1 => .inr ⟨_, rfl, .int b, rfl, .int c, rfl, b, c, rfl, rfl, _, rfl, _, rfl, ?_⟩)⟩
      all_goals rw [decide_eq_false q1]
      · exact iteT ⟨.int d, rfl, .int a, rfl, d, a, rfl, rfl, _, rfl, .inr ⟨_, rfl, lf _ (w1 e1 e2)⟩⟩
      · exact iteT ⟨.int d, rfl, .int a, rfl, d, a, rfl, rfl, _, rfl, .inr ⟨_, rfl, lf _ (w2 e2)⟩⟩
      · exact iteT ⟨.int d, rfl, .int a, rfl, d, a, rfl, rfl, _, rfl, .inr ⟨_, rfl, lf _ (w3 e1)⟩⟩
end
end K2

namespace K2
open PySem PySem.Spec PyProof.Rows L2 GR
/-! ### what repr shows of a list of pairs -/
def td (d : Int × Int) : PyData := .tuple [.int d.1, .int d.2]
def Lim (n : Int) : Prop := -LIM ≤ n ∧ n ≤ LIM
theorem lim_nat {n : Int} (h : Lim n) : n.natAbs ≤ 1000000000000000000 := by
  have h1 : -1000000000000000000 ≤ n := h.1
  have h2 : n ≤ 1000000000000000000 := h.2
  omega
theorem lim_log {n : Int} (h : Lim n) : n.natAbs.log2 < 60 := by
  by_cases e : n.natAbs = 0
  · rw [e]; decide
  · exact (Nat.log2_lt e).mpr (Nat.lt_of_le_of_lt (lim_nat h) (by decide))
theorem lim_show {n : Int} (h : Lim n) : (PyData.shown (.int n)).length ≤ 20 := by
  have e := int_text_length_le10 (k := 19) (by decide) (Nat.lt_of_le_of_lt (lim_nat h) (by decide : 1000000000000000000 < 10 ^ 19))
  rw [PyData.shown_int, PySem.ofString_length]
  exact e
theorem lim_weight {n : Int} (h : Lim n) : PyData.weight (.int n) ≤ 60 := by
  have := lim_log h
  simp only [PyData.weight]
  split <;> omega
theorem pair_facts {d : Int × Int} (h1 : Lim d.1) (h2 : Lim d.2) : (td d).showable = true ∧ (td d).leavesShort 20 = true ∧ (td d).depth = 1 ∧ (td d).weight ≤ 122 := by
  have a1 := lim_log h1
  have a2 := lim_log h2
  have w1 := lim_weight h1
  have w2 := lim_weight h2
  refine ⟨?_, ?_, ?_, ?_⟩
  · simp only [td, PyData.showable, PyData.showableAll, Bool.and_true, Bool.and_eq_true, decide_eq_true_eq]
    omega
  · simp only [td, PyData.leavesShort, PyData.leavesShortAll, Bool.and_true, Bool.and_eq_true, decide_eq_true_eq]
    exact ⟨lim_show h1, lim_show h2⟩
  · simp only [td, PyData.depth, PyData.depthAll]
    omega
  · simp only [td, PyData.weight, PyData.weightAll] at *
    omega
theorem pairs_facts : ∀ ds : List (Int × Int), (∀ d, d ∈ ds → Lim d.1 ∧ Lim d.2) → PyData.showableAll (ds.map td) = true ∧ PyData.leavesShortAll 20 (ds.map td) = true ∧ PyData.depthAll (ds.map td) ≤ 1 ∧ PyData.weightAll (ds.map td) ≤ ds.length * 123
  | [], _ => by
    refine ⟨by simp only [List.map_nil, PyData.showableAll], by simp only [List.map_nil, PyData.leavesShortAll], ?_, ?_⟩
    · simp only [List.map_nil, PyData.depthAll]; omega
    · simp only [List.map_nil, PyData.weightAll]; omega
  | d :: ds, h => by
    obtain ⟨p1, p2, p3, p4⟩ := pair_facts (h d List.mem_cons_self).1 (h d List.mem_cons_self).2
    obtain ⟨q1, q2, q3, q4⟩ := pairs_facts ds fun e he => h e (List.mem_cons_of_mem _ he)
    refine ⟨?_, ?_, ?_, ?_⟩
    · simp only [List.map_cons, PyData.showableAll, p1, q1, Bool.and_self]
    · simp only [List.map_cons, PyData.leavesShortAll, p2, q2, Bool.and_self]
    · simp only [List.map_cons, PyData.depthAll, p3]; omega
    · simp only [List.map_cons, PyData.weightAll, List.length_cons]; omega
theorem show_pairs {ds : List (Int × Int)} (h : ∀ d, d ∈ ds → Lim d.1 ∧ Lim d.2) (hl : ds.length ≤ 8) : (PyData.list (ds.map td)).showable = true ∧ (PyData.list (ds.map td)).depth ≤ 60 ∧ (PyData.list (ds.map td)).shown.length ≤ sizeLine := by
  obtain ⟨q1, q2, q3, q4⟩ := pairs_facts ds h
  refine ⟨by simp only [PyData.showable, q1], ?_, ?_⟩
  · simp only [PyData.depth]; omega
  · have e := PyData.shown_le 20 (by decide) (.list (ds.map td)) (by simp only [PyData.leavesShort, q2])
    have e2 : (PyData.list (ds.map td)).weight ≤ 984 := by
      simp only [PyData.weight]
      omega
    rw [sizeLine_eq]
    have e3 : (20 + 2) * (PyData.list (ds.map td)).weight ≤ (20 + 2) * 984 := Nat.mul_le_mul_left _ e2
    omega
theorem dp_pair {K : PySem.W.Frag} {H : Hp} {p : Addr} {d : Int × Int} (h : H p = some (.tup [.int d.1, .int d.2])) : Dp K H (.ref p) (td d) := .tup (.inl (.inl h)) (.cons (.int _) (.cons (.int _) .nil))
theorem dp_pairs {K : PySem.W.Frag} {H : Hp} : ∀ {rs : List V} {ds : List (Int × Int)}, TupAll H rs ds → DpAll K H rs (ds.map td)
  | _, _, .nil => .nil
  | _, _, .cons ⟨p, e, h⟩ t => by
    subst e
    exact .cons (dp_pair h) (dp_pairs t)
theorem Due.dp {K : PySem.W.Frag} {H : Hp} {p : Addr} {ds : List (Int × Int)} (h : Due H p ds) : Dp K H (.ref p) (.list (ds.map td)) := by
  obtain ⟨rs, e, t⟩ := h
  exact .lst (.inl (.inl e)) (dp_pairs t)
theorem Due.same {H H' : Hp} {p : Addr} {ds : List (Int × Int)} (h : Due H p ds) (s : Same H H') : Due H' p ds := by
  obtain ⟨rs, e, t⟩ := h
  exact ⟨rs, s _ _ e, t.mono fun q us z => s _ _ z⟩
theorem lim_clip (n : Int) : Lim (clipI n) := by
  rw [clipI_eq]
  unfold Lim
  have hL : LIM = 1000000000000000000 := rfl
  omega
theorem lim_told (a b c d : Int) : ∀ e, e ∈ toldD a b c d → Lim e.1 ∧ Lim e.2 := by
  intro e he
  have hL : LIM = 1000000000000000000 := rfl
  unfold toldD at he
  simp only [List.mem_cons, List.not_mem_nil, or_false] at he
  rcases he with rfl | rfl | rfl | rfl | rfl
  · exact ⟨lim_clip _, lim_clip _⟩
  · exact ⟨lim_clip _, lim_clip _⟩
  · exact ⟨lim_clip _, lim_clip _⟩
  · unfold lessS Lim
    repeat' split
    all_goals omega
  · unfold sameS Lim
    repeat' split
    all_goals omega
section
variable {P : Program} {w : World} {K : PySem.W.Frag} {mg : Str → Option Value} {base : Heap}
abbrev s_law_told : Stmt := topS 20
theorem sc_law_told : FnScope ["_law_one", "_law_other"] ["_law_one", "_law_other"] (defScope s_law_told) := ⟨rfl, rfl, rfl, by decide +kernel, rfl, by decide +kernel, by decide +kernel⟩
theorem ok_told {f fplus fminus ftimes fless fsame : Addr} {fd dplus dminus dtimes dless dsame : FuncData} {k : Nat} (F : Fun K "_law_told" "_law_told" s_law_told f fd)
    (Gplus : FnOk P w K mg base CX0 k fplus dplus ["one", "other"] (spTwo K fun a b c d => (clipI (a + c), clipI (b + d)))) (gplus : mg "plus" = some (.ref fplus)) (Kplus : PySem.W.keepIn K (.ref fplus) = true) (bplus : Binds K dplus ["one", "other"] [])
    (Gminus : FnOk P w K mg base CX0 k fminus dminus ["one", "other"] (spTwo K fun a b c d => (clipI (a - d), clipI (b - c)))) (gminus : mg "minus" = some (.ref fminus)) (Kminus : PySem.W.keepIn K (.ref fminus) = true) (bminus : Binds K dminus ["one", "other"] [])
    (Gtimes : FnOk P w K mg base CX0 k ftimes dtimes ["one", "other"] (spTwo K fun a b c d => (clipI (lo4 a b c d), clipI (hi4 a b c d)))) (gtimes : mg "times" = some (.ref ftimes)) (Ktimes : PySem.W.keepIn K (.ref ftimes) = true) (btimes : Binds K dtimes ["one", "other"] [])
    (Gless : FnOk P w K mg base CX0 k fless dless ["one", "other"] (spTwo K lessS)) (gless : mg "less" = some (.ref fless)) (Kless : PySem.W.keepIn K (.ref fless) = true) (bless : Binds K dless ["one", "other"] [])
    (Gsame : FnOk P w K mg base CX0 k fsame dsame ["one", "other"] (spTwo K sameS)) (gsame : mg "same" = some (.ref fsame)) (Ksame : PySem.W.keepIn K (.ref fsame) = true) (bsame : Binds K dsame ["one", "other"] []) :
    FnOk P w K mg base CX0 (k + 1) f fd ["_law_one", "_law_other"] (sp_due K LIM) := by
  have nd := sc_law_told.nd
  refine F.ok sc_law_told sp_due_len (fun cdv A outer s H vs Q E hr h => ?_)
  obtain ⟨x, y, a, b, c, d, rfl, hx, hy, hab, hcd, hB, hB2, q⟩ := h
  have hL : LIM = 1000000000000000000 := rfl
  have ba : -(2 ^ 64) < a ∧ a < 2 ^ 64 := by omega
  have bb : -(2 ^ 64) < b ∧ b < 2 ^ 64 := by omega
  refine ⟨_, (pss_one (ps_ret (pe_lst (pa_cons (pe_call Gplus hr (by rfl) gplus Kplus bplus .nil pass0 (pa_cons (pv 0) (pa_cons (pv 1) pa_nil))) (pa_cons (pe_call Gminus hr (by rfl) gminus Kminus bminus .nil pass0 (pa_cons (pv 0) (pa_cons (pv 1) pa_nil))) (pa_cons (pe_call Gtimes hr (by rfl) gtimes Ktimes btimes .nil pass0 (pa_cons (pv 0) (pa_cons (pv 1) pa_nil))) (pa_cons (pe_call Gless hr (by rfl) gless Kless bless .nil pass0 (pa_cons (pv 0) (pa_cons (pv 1) pa_nil))) (pa_cons (pe_call Gsame hr (by rfl) gsame Ksame bsame .nil pass0 (pa_cons (pv 0) (pa_cons (pv 1) pa_nil))) pa_nil)))))))), ?_⟩
  refine ⟨.ref x, rfl, .ref y, rfl, x, y, a, b, c, d, rfl, hx, hy, ba, bb, fun H1 p1 s1 n1 h1 => ?_⟩
  refine ⟨.ref x, rfl, .ref y, rfl, x, y, a, b, c, d, rfl, Same.tupT s1 hx, Same.tupT s1 hy, ba, bb, fun H2 p2 s2 n2 h2 => ?_⟩
  have S2 := s1.trans s2
  refine ⟨.ref x, rfl, .ref y, rfl, x, y, a, b, c, d, rfl, Same.tupT S2 hx, Same.tupT S2 hy, ba, bb, fun H3 p3 s3 n3 h3 => ?_⟩
  have S3 := S2.trans s3
  refine ⟨.ref x, rfl, .ref y, rfl, x, y, a, b, c, d, rfl, Same.tupT S3 hx, Same.tupT S3 hy, ba, bb, fun H4 p4 s4 n4 h4 => ?_⟩
  have S4 := S3.trans s4
  refine ⟨.ref x, rfl, .ref y, rfl, x, y, a, b, c, d, rfl, Same.tupT S4 hx, Same.tupT S4 hy, ba, bb, fun H5 p5 s5 n5 h5 => ?_⟩
  refine ⟨small_le (show 5 ≤ 1000 by decide), fun l nl => ?_⟩
  have s6 := same_upd (o := .lst [.ref p1, .ref p2, .ref p3, .ref p4, .ref p5]) nl
  refine q _ l (S4.trans (s5.trans s6)) ((S4.trans s5).free nl) ⟨_, upd_same, ?_⟩
  exact .cons ⟨p1, rfl, s6 _ _ (s5 _ _ (s4 _ _ (s3 _ _ (s2 _ _ h1))))⟩ (.cons ⟨p2, rfl, s6 _ _ (s5 _ _ (s4 _ _ (s3 _ _ h2)))⟩ (.cons ⟨p3, rfl, s6 _ _ (s5 _ _ (s4 _ _ h3))⟩ (.cons ⟨p4, rfl, s6 _ _ (s5 _ _ h4)⟩ (.cons ⟨p5, rfl, s6 _ _ h5⟩ .nil))))
abbrev s_law_right : Stmt := topS 21
theorem sc_law_right : FnScope ["_law_one", "_law_other", "_law_due", "_law_both"] ["_law_one", "_law_other", "_law_due"] (defScope s_law_right) := ⟨rfl, rfl, rfl, by decide +kernel, rfl, by decide +kernel, by decide +kernel⟩
def sp_right (K : PySem.W.Frag) : Sp := fun vs H Q _ => ∃ (x y u : Addr) (a b c d : Int), vs = [.ref x, .ref y, .ref u] ∧ H x = some (.tup [.int a, .int b]) ∧ H y = some (.tup [.int c, .int d]) ∧ a ≤ b ∧ c ≤ d ∧ (-LIM ≤ a ∧ b ≤ LIM) ∧ (-LIM ≤ c ∧ d ≤ LIM) ∧ Due H u (toldD a b c d) ∧
  ∀ H', Same H H' → Q (.bl true) H'
theorem lim_hull {a b c d : Int} (hab : a ≤ b) (hcd : c ≤ d) (hB : -LIM ≤ a ∧ b ≤ LIM) (hB2 : -LIM ≤ c ∧ d ≤ LIM) : Lim (minI a c) ∧ Lim (maxI b d) := by
  unfold minI maxI Lim
  constructor <;> split <;> omega
theorem ok_right {f f_law_told fhull : Addr} {fd d_law_told dhull : FuncData} {k : Nat} (F : Fun K "_law_right" "_law_right" s_law_right f fd)
    (G_law_told : FnOk P w K mg base CX0 k f_law_told d_law_told ["_law_one", "_law_other"] (sp_due K LIM)) (g_law_told : mg "_law_told" = some (.ref f_law_told)) (K_law_told : PySem.W.keepIn K (.ref f_law_told) = true) (b_law_told : Binds K d_law_told ["_law_one", "_law_other"] [])
    (Ghull : FnOk P w K mg base CX0 k fhull dhull ["one", "other"] (spTwo K fun a b c d => (minI a c, maxI b d))) (ghull : mg "hull" = some (.ref fhull)) (Khull : PySem.W.keepIn K (.ref fhull) = true) (bhull : Binds K dhull ["one", "other"] [])
    (mmax : mg "max" = none) (mmin : mg "min" = none) (mrepr : mg "repr" = none) : FnG P w K mg base CX0 (k + 1) f fd ["_law_one", "_law_other", "_law_due"] (sp_right K) := by
  have nd := sc_law_right.nd
  refine ok_g F sc_law_right (fun vs H Q E h => ?_) (fun cdv A outer s H vs Q E hg hr h => ?_)
  · obtain ⟨x, y, u, a, b, c, d, rfl, _⟩ := h
    rfl
  obtain ⟨x, y, u, a, b, c, d, rfl, hx, hy, hab, hcd, hB, hB2, hu, q⟩ := h
  have hL : LIM = 1000000000000000000 := rfl
  have ba : -(2 ^ 64) < a ∧ a < 2 ^ 64 := by omega
  have bb : -(2 ^ 64) < b ∧ b < 2 ^ 64 := by omega
  have bc : -(2 ^ 64) < c ∧ c < 2 ^ 64 := by omega
  have bd : -(2 ^ 64) < d ∧ d < 2 ^ 64 := by omega
  refine ⟨_, (pss_cons (ps_if (PW.pt (pw_or (pt_cmpR op_ne (pe_callB (call_reprD hg hr) (by rfl) mrepr boot_repr (pa_cons (pe_call G_law_told hr (by rfl) g_law_told K_law_told b_law_told .nil pass0 (pa_cons (pv 0) (pa_cons (pv 1) pa_nil))) pa_nil)) (pe_callB (call_reprD hg hr) (by rfl) mrepr boot_repr (pa_cons (pv 2) pa_nil)) (nomark _)) (pw_or1 (pt_cmpR op_ne (pe_callB (call_reprD hg hr) (by rfl) mrepr boot_repr (pa_cons (pe_call G_law_told hr (by rfl) g_law_told K_law_told b_law_told .nil pass0 (pa_cons (pv 0) (pa_cons (pv 1) pa_nil))) pa_nil)) (pe_callB (call_reprD hg hr) (by rfl) mrepr boot_repr (pa_cons (pv 2) pa_nil)) (nomark _)))))
      (pss_one (ps_ret pe_bl))
      pss_nil)
      (pss_cons (ps_set (i := 3) nd rfl (.inl rfl) (pe_tup (pa_cons (pe_callB (call_min2 rfl) (by rfl) mmin boot_min (pa_cons (pe_ix ix_tup (pv 0) pe_int (fun _ _ => rfl)) (pa_cons (pe_ix ix_tup (pv 1) pe_int (fun _ _ => rfl)) pa_nil))) (pa_cons (pe_callB (call_max2 rfl) (by rfl) mmax boot_max (pa_cons (pe_ix ix_tup (pv 0) pe_int (fun _ _ => rfl)) (pa_cons (pe_ix ix_tup (pv 1) pe_int (fun _ _ => rfl)) pa_nil))) pa_nil))))
      (pss_one (ps_ret (pe_cmpR op_eq (pe_callB (call_reprD hg hr) (by rfl) mrepr boot_repr (pa_cons (pe_lst (pa_cons (pe_call Ghull hr (by rfl) ghull Khull bhull .nil pass0 (pa_cons (pv 0) (pa_cons (pv 1) pa_nil))) (pa_cons (pe_call Ghull hr (by rfl) ghull Khull bhull .nil pass0 (pa_cons (pv 1) (pa_cons (pv 0) pa_nil))) (pa_cons (pe_call Ghull hr (by rfl) ghull Khull bhull .nil pass0 (pa_cons (pv 0) (pa_cons (pv 0) pa_nil))) pa_nil)))) pa_nil)) (pe_callB (call_reprD hg hr) (by rfl) mrepr boot_repr (pa_cons (pe_lst (pa_cons (pv 3) (pa_cons (pv 3) (pa_cons (pv 0) pa_nil)))) pa_nil)) (nomark _)))))), ?_⟩
  obtain ⟨v1, v2, v3⟩ := show_pairs (lim_told a b c d) (show 5 ≤ 8 by decide)
  -- repr(told) != repr(due), twice
  refine ⟨.ref x, rfl, .ref y, rfl, x, y, a, b, c, d, rfl, .inl (.inl hx), .inl (.inl hy), hab, hcd, hB, hB2, fun H1 p1 s1 n1 d1 => ?_⟩
  refine ⟨p1, _, rfl, d1.dp, v1, v2, v3, .ref u, rfl, u, _, rfl, (hu.same s1).dp, v1, v2, v3, rfl, _, rfl, iteNS rfl ?_⟩
  refine ⟨.ref x, rfl, .ref y, rfl, x, y, a, b, c, d, rfl, .inl (.inl (s1 _ _ hx)), .inl (.inl (s1 _ _ hy)), hab, hcd, hB, hB2, fun H2 p2 s2 n2 d2 => ?_⟩
  refine ⟨p2, _, rfl, d2.dp, v1, v2, v3, .ref u, rfl, u, _, rfl, ((hu.same s1).same s2).dp, v1, v2, v3, rfl, _, rfl, iteNS rfl ?_⟩
  have S2 := s1.trans s2
  have hx2 := S2 _ _ hx
  have hy2 := S2 _ _ hy
  refine ⟨.ref x, rfl, x, _, 0, _, rfl, rfl, .inl (.inl hx2), at0, .ref y, rfl, y, _, 0, _, rfl, rfl, .inl (.inl hy2), at0, a, c, rfl, .ref x, rfl, x, _, 1, _, rfl, rfl, .inl (.inl hx2), at1, .ref y, rfl, y, _, 1, _, rfl, rfl, .inl (.inl hy2), at1, b, d, rfl, le2, fun o no => ?_⟩
  have so : Same H2 (upd H2 o (.tup [.int (minI a c), .int (maxI b d)])) := same_upd no
  have ho : upd H2 o (.tup [.int (minI a c), .int (maxI b d)]) o = some (.tup [.int (minI a c), .int (maxI b d)]) := upd_same
  have hx3 := so _ _ hx2
  have hy3 := so _ _ hy2
  refine ⟨.ref x, rfl, .ref y, rfl, x, y, a, b, c, d, rfl, .inl (.inl hx3), .inl (.inl hy3), ba, bb, fun H4 p4 s4 n4 h4 => ?_⟩
  refine ⟨.ref y, rfl, .ref x, rfl, y, x, c, d, a, b, rfl, .inl (.inl (s4 _ _ hy3)), .inl (.inl (s4 _ _ hx3)), bc, bd, fun H5 p5 s5 n5 h5 => ?_⟩
  refine ⟨.ref x, rfl, .ref x, rfl, x, x, a, b, a, b, rfl, .inl (.inl (s5 _ _ (s4 _ _ hx3))), .inl (.inl (s5 _ _ (s4 _ _ hx3))), ba, bb, fun H6 p6 s6 n6 h6 => ?_⟩
  refine ⟨small_le (show 3 ≤ 1000 by decide), fun l nl => ?_⟩
  have sl := same_upd (o := .lst [.ref p4, .ref p5, .ref p6]) nl
  have due1 : Due (upd H6 l (.lst [.ref p4, .ref p5, .ref p6])) l [(minI a c, maxI b d), (minI c a, maxI d b), (minI a a, maxI b b)] :=
    ⟨_, upd_same, .cons ⟨p4, rfl, sl _ _ (s6 _ _ (s5 _ _ h4))⟩ (.cons ⟨p5, rfl, sl _ _ (s6 _ _ h5)⟩ (.cons ⟨p6, rfl, sl _ _ h6⟩ .nil))⟩
  have lh := lim_hull hab hcd hB hB2
  have eq3 : [(minI a c, maxI b d), (minI c a, maxI d b), (minI a a, maxI b b)] = [(minI a c, maxI b d), (minI a c, maxI b d), (a, b)] := by
    have e1 : minI c a = minI a c := by unfold minI; repeat' split
                                        all_goals omega
    have e2 : maxI d b = maxI b d := by unfold maxI; repeat' split
                                        all_goals omega
    have e3 : minI a a = a := by unfold minI; split <;> rfl
    have e4 : maxI b b = b := by unfold maxI; split <;> rfl
    rw [e1, e2, e3, e4]
  rw [eq3] at due1
  have lim3 : ∀ e, e ∈ [(minI a c, maxI b d), (minI a c, maxI b d), (a, b)] → Lim e.1 ∧ Lim e.2 := by
    intro e he
    simp only [List.mem_cons, List.not_mem_nil, or_false] at he
    rcases he with rfl | rfl | rfl
    · exact lh
    · exact lh
    · exact ⟨⟨hB.1, by omega⟩, ⟨by omega, hB.2⟩⟩
  obtain ⟨w1, w2, w3⟩ := show_pairs lim3 (show 3 ≤ 8 by decide)
  refine ⟨l, _, rfl, due1.dp, w1, w2, w3, .ref o, rfl, .ref o, rfl, .ref x, rfl, small_le (show 3 ≤ 1000 by decide), fun m nm => ?_⟩
  have sm := same_upd (o := .lst [.ref o, .ref o, .ref x]) nm
  have So : ∀ b' o', upd H2 o (.tup [.int (minI a c), .int (maxI b d)]) b' = some o' → upd (upd H6 l (.lst [.ref p4, .ref p5, .ref p6])) m (.lst [.ref o, .ref o, .ref x]) b' = some o' := fun b' o' e => sm _ _ (sl _ _ (s6 _ _ (s5 _ _ (s4 _ _ e))))
  have due2 : Due (upd (upd H6 l (.lst [.ref p4, .ref p5, .ref p6])) m (.lst [.ref o, .ref o, .ref x])) m [(minI a c, maxI b d), (minI a c, maxI b d), (a, b)] :=
    ⟨_, upd_same, .cons ⟨o, rfl, So _ _ ho⟩ (.cons ⟨o, rfl, So _ _ ho⟩ (.cons ⟨x, rfl, So _ _ hx3⟩ .nil))⟩
  refine ⟨m, _, rfl, due2.dp, w1, w2, w3, rfl, ?_⟩
  rw [decide_eq_true rfl]
  exact q _ fun b' o' e => So _ _ (so _ _ (S2 _ _ e))
end
end K2

namespace K2
open PySem PySem.Spec PyProof.Rows L2 GR
section
variable {P : Program} {w : World} {K : PySem.W.Frag} {mg : Str → Option Value} {base : Heap}
abbrev s_law : Stmt := topS 22
theorem sc_law : FnScope ["_law_script", "_law_deck_here", "_law_turn", "_law_one", "_law_other"] ["_law_script"] (defScope s_law) := ⟨rfl, rfl, rfl, by decide +kernel, rfl, by decide +kernel, by decide +kernel⟩
def sp_law (K : PySem.W.Frag) : Sp := fun vs H Q _ => ∃ (a : Addr) (ns : List Int), vs = [.ref a] ∧ SqL K H a (ns.map V.int) ∧ ∀ H', Q (.bl true) H'
theorem ok_law {f f_deck f_draw f_pick f_small f_great f_small_due f_great_due f_right : Addr} {fd d_deck d_draw d_pick d_small d_great d_small_due d_great_due d_right : FuncData} {k : Nat} (F : Fun K "law" "law" s_law f fd)
    (G_law_deck : FnOk P w K mg base CX0 k f_deck d_deck ["_law_script"] (sp_deck K)) (g_law_deck : mg "_law_deck" = some (.ref f_deck)) (K_law_deck : PySem.W.keepIn K (.ref f_deck) = true) (b_law_deck : Binds K d_deck ["_law_script"] [])
    (G_law_draw : FnOk P w K mg base CX0 k f_draw d_draw ["_law_deck_here", "_law_most"] sp_draw) (g_law_draw : mg "_law_draw" = some (.ref f_draw)) (K_law_draw : PySem.W.keepIn K (.ref f_draw) = true) (b_law_draw : Binds K d_draw ["_law_deck_here", "_law_most"] [])
    (G_law_pick : FnOk P w K mg base CX0 k f_pick d_pick ["_law_deck_here", "_law_some"] (sp_pick K)) (g_law_pick : mg "_law_pick" = some (.ref f_pick)) (K_law_pick : PySem.W.keepIn K (.ref f_pick) = true) (b_law_pick : Binds K d_pick ["_law_deck_here", "_law_some"] [])
    (G_law_small : FnOk P w K mg base CX0 k f_small d_small ["_law_deck_here"] (sp_span 3 100)) (g_law_small : mg "_law_small" = some (.ref f_small)) (K_law_small : PySem.W.keepIn K (.ref f_small) = true) (b_law_small : Binds K d_small ["_law_deck_here"] [])
    (G_law_great : FnOk P w K mg base CX0 k f_great d_great ["_law_deck_here"] (sp_span 4 LIM)) (g_law_great : mg "_law_great" = some (.ref f_great)) (K_law_great : PySem.W.keepIn K (.ref f_great) = true) (b_law_great : Binds K d_great ["_law_deck_here"] [])
    (G_law_small_due : FnOk P w K mg base CX0 k f_small_due d_small_due ["_law_one", "_law_other"] (sp_due K 200)) (g_law_small_due : mg "_law_small_due" = some (.ref f_small_due)) (K_law_small_due : PySem.W.keepIn K (.ref f_small_due) = true) (b_law_small_due : Binds K d_small_due ["_law_one", "_law_other"] [])
    (G_law_great_due : FnOk P w K mg base CX0 k f_great_due d_great_due ["_law_one", "_law_other"] (sp_due K LIM)) (g_law_great_due : mg "_law_great_due" = some (.ref f_great_due)) (K_law_great_due : PySem.W.keepIn K (.ref f_great_due) = true) (b_law_great_due : Binds K d_great_due ["_law_one", "_law_other"] [])
    (G_law_right : FnG P w K mg base CX0 k f_right d_right ["_law_one", "_law_other", "_law_due"] (sp_right K)) (g_law_right : mg "_law_right" = some (.ref f_right)) (K_law_right : PySem.W.keepIn K (.ref f_right) = true) (b_law_right : Binds K d_right ["_law_one", "_law_other", "_law_due"] [])
    (mrange : mg "range" = none) : FnG P w K mg base CX0 (k + 1) f fd ["_law_script"] (sp_law K) := by
  have nd := sc_law.nd
  refine ok_g F sc_law (fun vs H Q E h => ?_) (fun cdv A outer s H vs Q E hg hr h => ?_)
  · obtain ⟨a, ns, rfl, _⟩ := h
    rfl
  obtain ⟨a, ns, rfl, hS, q⟩ := h
  have hL : LIM = 1000000000000000000 := rfl
  refine ⟨_, (pss_cons (ps_set (i := 1) nd rfl (.inl rfl) (pe_call G_law_deck hr (by rfl) g_law_deck K_law_deck b_law_deck .nil pass0 (pa_cons (pv 0) pa_nil)))
      (pss_cons (ps_for PassesOwn.never rfl (pi_range1 rfl mrange (pa_cons pe_int pa_nil)) (pg_name (i := 2) nd rfl (Or.inl rfl))
      (pss_cons (ps_par (i := 3) (j := 4) rfl nd rfl rfl (by decide) rfl rfl (pa_cons (pe_call G_law_small hr (by rfl) g_law_small K_law_small b_law_small .nil pass0 (pa_cons (pv 1) pa_nil)) (pa_cons (pe_call G_law_small hr (by rfl) g_law_small K_law_small b_law_small .nil pass0 (pa_cons (pv 1) pa_nil)) pa_nil)) (by rfl))
        (Evl.pss_cut (ps_if (pt_cmpR op_eq (pe_call G_law_draw hr (by rfl) g_law_draw K_law_draw b_law_draw .nil pass0 (pa_cons (pv 1) (pa_cons pe_int pa_nil))) pe_int (nomark _))
        (pss_one (ps_set (i := 4) nd rfl (.inl rfl) (pe_call G_law_pick hr (by rfl) g_law_pick K_law_pick b_law_pick .nil pass0 (pa_cons (pv 1) (pa_cons (pe_lst (pa_cons (pv 3) (pa_cons (pe_tup (pa_cons (pe_ix ix_tup (pv 3) pe_int (fun _ _ => rfl)) (pa_cons (pe_op op_add (pe_ix ix_tup (pv 3) pe_int (fun _ _ => rfl)) pe_int) pa_nil))) (pa_cons (pe_tup (pa_cons (pe_op op_add (pe_ix ix_tup (pv 3) pe_int (fun _ _ => rfl)) pe_int) (pa_cons (pe_op op_add (pe_ix ix_tup (pv 3) pe_int (fun _ _ => rfl)) pe_int) pa_nil))) (pa_cons (pe_tup (pa_cons (pe_ix ix_tup (pv 3) pe_int (fun _ _ => rfl)) (pa_cons (pe_ix ix_tup (pv 3) pe_int (fun _ _ => rfl)) pa_nil))) pa_nil))))) pa_nil)))))
        pss_nil)
        (pss_cons (ps_if (pt_not (pt_val (pe_callG G_law_right hg hr (by rfl) g_law_right K_law_right b_law_right pass0 (pa_cons (pv 3) (pa_cons (pv 4) (pa_cons (pe_call G_law_small_due hr (by rfl) g_law_small_due K_law_small_due b_law_small_due .nil pass0 (pa_cons (pv 3) (pa_cons (pv 4) pa_nil))) pa_nil))))))
        (pss_one (ps_ret pe_bl))
        pss_nil)
        (pss_cons (ps_par (i := 3) (j := 4) rfl nd rfl rfl (by decide) rfl rfl (pa_cons (pe_call G_law_great hr (by rfl) g_law_great K_law_great b_law_great .nil pass0 (pa_cons (pv 1) pa_nil)) (pa_cons (pe_call G_law_great hr (by rfl) g_law_great K_law_great b_law_great .nil pass0 (pa_cons (pv 1) pa_nil)) pa_nil)) (by rfl))
        (Evl.pss_cut (ps_if (pt_cmpR op_eq (pe_call G_law_draw hr (by rfl) g_law_draw K_law_draw b_law_draw .nil pass0 (pa_cons (pv 1) (pa_cons pe_int pa_nil))) pe_int (nomark _))
        (pss_one (ps_set (i := 4) nd rfl (.inl rfl) (pv 3)))
        pss_nil)
        (pss_one (ps_if (pt_not (pt_val (pe_callG G_law_right hg hr (by rfl) g_law_right K_law_right b_law_right pass0 (pa_cons (pv 3) (pa_cons (pv 4) (pa_cons (pe_call G_law_great_due hr (by rfl) g_law_great_due K_law_great_due b_law_great_due .nil pass0 (pa_cons (pv 3) (pa_cons (pv 4) pa_nil))) pa_nil))))))
        (pss_one (ps_ret pe_bl))
        pss_nil))))))))
      (pss_one (ps_ret pe_bl)))), ?_⟩
  refine ⟨.ref a, rfl, a, ns, rfl, hS, fun H1 d c s1 n1 D1 => ?_⟩
  refine ⟨12, rfl, by decide, by decide, ?_⟩
  refine for_range (n := 12) (fun i σ H' => ∃ y2 y3 y4, σ = [some (.ref a), some (.ref d), y2, y3, y4] ∧ Deck H' d c (20 * (i : Int))) ?_ ?_ ?_
  · exact ⟨none, none, none, rfl, D1⟩
  · rintro i σ H2 hi ⟨y2, y3, y4, rfl, D2⟩
    -- one, other = two small spans
    refine ⟨.ref d, rfl, d, c, _, rfl, D2, by omega, fun H3 p1 lo1 hi1 k3 D3 h3 a1 a2 a3 => ?_⟩
    refine ⟨.ref d, rfl, d, c, _, rfl, D3, by omega, fun H4 p2 lo2 hi2 k4 D4 h4 b1 b2 b3 => ?_⟩
    have h34 := k4.tup D3 h3
    refine ⟨_, _, rfl, ?_⟩
    refine ⟨fun σ' H' => ∃ p2 c' d', σ' = [some (.ref a), some (.ref d), some (.int (0 + (i : Int))), some (.ref p1), some (.ref p2)] ∧ H' p1 = some (.tup [.int lo1, .int hi1]) ∧ H' p2 = some (.tup [.int c', .int d']) ∧ c' ≤ d' ∧ (-200 ≤ c' ∧ d' ≤ 200) ∧ Deck H' d c (20 * (i : Int) + 8), ?_, ?_⟩
    · refine ⟨.ref d, rfl, d, c, _, 4, rfl, D4, by omega, by decide, by decide, fun H5 r k5 D5 r0 r1 => ⟨rfl, _, rfl, ite2 (fun e => ?_) (fun e => ?_)⟩⟩
      · have h35 := k5.tup D4 h34
        refine ⟨.ref d, rfl, .ref p1, rfl, .ref p1, rfl, p1, _, 1, _, rfl, rfl, .inl (.inl h35), at1, .ref p1, rfl, p1, _, 1, _, rfl, rfl, .inl (.inl h35), at1, _, _, rfl, rfl, le2, fun t1 nt1 => ?_⟩
        have st1 := same_upd (o := .tup [.int hi1, .int (hi1 + 2)]) nt1
        have h36 := st1 _ _ h35
        refine ⟨.ref p1, rfl, p1, _, 1, _, rfl, rfl, .inl (.inl h36), at1, _, _, rfl, rfl, .ref p1, rfl, p1, _, 1, _, rfl, rfl, .inl (.inl h36), at1, _, _, rfl, rfl, le2, fun t2 nt2 => ?_⟩
        have st2 := same_upd (o := .tup [.int (hi1 + 1), .int (hi1 + 1)]) nt2
        have h37 := st2 _ _ h36
        refine ⟨.ref p1, rfl, p1, _, 0, _, rfl, rfl, .inl (.inl h37), at0, .ref p1, rfl, p1, _, 0, _, rfl, rfl, .inl (.inl h37), at0, le2, fun t3 nt3 => ?_⟩
        have st3 := same_upd (o := .tup [.int lo1, .int lo1]) nt3
        have h38 := st3 _ _ h37
        refine ⟨small_le (show 4 ≤ 1000 by decide), fun l nl => ?_⟩
        have sl := same_upd (o := .lst [.ref p1, .ref t1, .ref t2, .ref t3]) nl
        have D6 := D5.same (st1.trans (st2.trans (st3.trans sl)))
        have hln := (D5.same (st1.trans (st2.trans st3))).new nl
        refine ⟨d, c, l, _, [.ref p1, .ref t1, .ref t2, .ref t3], rfl, D6, by omega, .inl (.inl upd_same), List.cons_ne_nil _ _, (show 4 ≤ 1000 by decide), hln.1, hln.2, fun H7 v k7 D7 hv => ?_⟩
        have q1 := k7.tup D6 (sl _ _ h38)
        have q2 := k7.tup D6 (sl _ _ (st3 _ _ (st2 _ _ (show upd H5 t1 (.tup [.int hi1, .int (hi1 + 2)]) t1 = _ from upd_same))))
        have q3 := k7.tup D6 (sl _ _ (st3 _ _ (show upd _ t2 (.tup [.int (hi1 + 1), .int (hi1 + 1)]) t2 = _ from upd_same)))
        have q4 := k7.tup D6 (sl _ _ (show upd _ t3 (.tup [.int lo1, .int lo1]) t3 = _ from upd_same))
        have hv' : v = .ref p1 ∨ v = .ref t1 ∨ v = .ref t2 ∨ v = .ref t3 := by simpa using hv
        rcases hv' with rfl | rfl | rfl | rfl
        · exact ⟨p1, lo1, hi1, rfl, q1, q1, a1, by omega, D7.mono (by omega)⟩
        · exact ⟨t1, _, _, rfl, q1, q2, by omega, by omega, D7.mono (by omega)⟩
        · exact ⟨t2, _, _, rfl, q1, q3, by omega, by omega, D7.mono (by omega)⟩
        · exact ⟨t3, _, _, rfl, q1, q4, by omega, by omega, D7.mono (by omega)⟩
      · exact ⟨p2, lo2, hi2, rfl, k5.tup D4 h34, k5.tup D4 h4, b1, by omega, D5.mono (by omega)⟩
    · rintro σ' H5 ⟨p2', c', d', rfl, h5, h5', hcd, hB5, D5⟩
      refine ⟨.ref p1, rfl, .ref p2', rfl, .ref p1, rfl, .ref p2', rfl, p1, p2', lo1, hi1, c', d', rfl, .inl (.inl h5), .inl (.inl h5'), a1, hcd, by omega, hB5, fun H6 u s6 n6 d6 => ?_⟩
      refine ⟨p1, p2', u, lo1, hi1, c', d', rfl, s6 _ _ h5, s6 _ _ h5', a1, hcd, by omega, by omega, d6, fun H7 s7 => ⟨_, rfl, iteF ?_⟩⟩
      have D7 := D5.same (s6.trans s7)
      -- one, other = two great spans
      refine ⟨.ref d, rfl, d, c, _, rfl, D7, by omega, fun H8 g1' x1 y1 k8 D8 h8 a1' a2' a3' => ?_⟩
      refine ⟨.ref d, rfl, d, c, _, rfl, D8, by omega, fun H9 g2' x2 y2' k9 D9 h9 b1' b2' b3' => ?_⟩
      have h89 := k9.tup D8 h8
      refine ⟨_, _, rfl, ?_⟩
      refine ⟨fun σ' H' => ∃ p2 c' d', σ' = [some (.ref a), some (.ref d), some (.int (0 + (i : Int))), some (.ref g1'), some (.ref p2)] ∧ H' g1' = some (.tup [.int x1, .int y1]) ∧ H' p2 = some (.tup [.int c', .int d']) ∧ c' ≤ d' ∧ (-LIM ≤ c' ∧ d' ≤ LIM) ∧ Deck H' d c (20 * (i : Int) + 17), ?_, ?_⟩
      · refine ⟨.ref d, rfl, d, c, _, 6, rfl, D9, by omega, by decide, by decide, fun H10 r k10 D10 r0 r1 => ⟨rfl, _, rfl, ite2 (fun e => ?_) (fun e => ?_)⟩⟩
        · exact ⟨.ref g1', rfl, g1', x1, y1, rfl, k10.tup D9 h89, k10.tup D9 h89, a1', ⟨a2', a3'⟩, D10.mono (by omega)⟩
        · exact ⟨g2', x2, y2', rfl, k10.tup D9 h89, k10.tup D9 h9, b1', ⟨b2', b3'⟩, D10.mono (by omega)⟩
      · rintro σ' H10 ⟨p2'', c'', d'', rfl, h10, h10', hcd', hB10, D10⟩
        refine ⟨.ref g1', rfl, .ref p2'', rfl, .ref g1', rfl, .ref p2'', rfl, g1', p2'', x1, y1, c'', d'', rfl, .inl (.inl h10), .inl (.inl h10'), a1', hcd', ⟨a2', a3'⟩, hB10, fun H11 u' s11 n11 d11 => ?_⟩
        refine ⟨g1', p2'', u', x1, y1, c'', d'', rfl, s11 _ _ h10, s11 _ _ h10', a1', hcd', ⟨a2', a3'⟩, hB10, d11, fun H12 s12 => ⟨_, rfl, iteF ?_⟩⟩
        exact ⟨_, _, _, rfl, (D10.same (s11.trans s12)).mono (by omega)⟩
  · rintro σ H2 _
    exact q H2
end
end K2

namespace K2
open PySem PySem.Spec PyProof.Rows L2 GR
/-- a def stands in the text's top -/
def Has (K : PySem.W.Frag) (x : Str) (st : Stmt) : Prop := ∃ (f : Addr) (fd : FuncData), PySem.W.nsIn K mainGlobals x = some (some (.ref f)) ∧ Fun K x x st f fd
theorem has_mk {K : PySem.W.Frag} {x : Str} {st : Stmt} {f : Addr} {oc : Value} {od an : Option Addr} {osl : Array (Option Value)} {kV doc pm cdv ct : Value} (a : PySem.W.nsIn K mainGlobals x = some (some (.ref f)))
    (l : K.lookup f = some ⟨oc, od, .func (PySem.W.fnOf x x (defArgs st) (defBody st) (defScope st) .none kV doc pm an cdv ct), osl⟩) (c : PySem.W.codeIn K cdv x = true) (k : PySem.W.keepIn K (.ref f) = true) : Has K x st := ⟨f, _, a, fun_mk l c k⟩
theorem all_mk {P : Program} {w : World} {K : PySem.W.Frag} {h : Heap} {mg : Str → Option Value} {fa : Addr} (X : K.In h) (G : h.Ns mainGlobals mg) (hfa : mg "law" = some (.ref fa))
    (X_clip : Has K "clip" s_clip)
    (X_hull : Has K "hull" s_hull)
    (X_plus : Has K "plus" s_plus)
    (X_minus : Has K "minus" s_minus)
    (X_times : Has K "times" s_times)
    (X_less : Has K "less" s_less)
    (X_same : Has K "same" s_same)
    (X_law_deck : Has K "_law_deck" s_law_deck)
    (X_law_draw : Has K "_law_draw" s_law_draw)
    (X_law_pick : Has K "_law_pick" s_law_pick)
    (X_law_small : Has K "_law_small" s_law_small)
    (X_law_end : Has K "_law_end" s_law_end)
    (X_law_great : Has K "_law_great" s_law_great)
    (X_law_clipped : Has K "_law_clipped" s_law_clipped)
    (X_law_values : Has K "_law_values" s_law_values)
    (X_law_small_due : Has K "_law_small_due" s_law_small_due)
    (X_law_great_due : Has K "_law_great_due" s_law_great_due)
    (X_law_told : Has K "_law_told" s_law_told)
    (X_law_right : Has K "_law_right" s_law_right)
    (X_law : Has K "law" s_law)
    (z_max : PySem.W.nsIn K mainGlobals "max" = some none) (z_min : PySem.W.nsIn K mainGlobals "min" = some none) (z_list : PySem.W.nsIn K mainGlobals "list" = some none) (z_sum : PySem.W.nsIn K mainGlobals "sum" = some none) (z_len : PySem.W.nsIn K mainGlobals "len" = some none) (z_sorted : PySem.W.nsIn K mainGlobals "sorted" = some none) (z_range : PySem.W.nsIn K mainGlobals "range" = some none) (z_int : PySem.W.nsIn K mainGlobals "int" = some none) (z_repr : PySem.W.nsIn K mainGlobals "repr" = some none)
    {tk_LIMIT : Tok} (c_LIMIT : PySem.W.nsIn K mainGlobals "LIMIT" = some (some (.int LIM tk_LIMIT)))
    : ∃ fd : FuncData, (∀ (s : Shared) (v : Value), BindsTo s fd ⟨[v], []⟩ [("_law_script", v)]) ∧ ∀ base : Heap, K.In base → base.Ns mainGlobals mg → FnG P w K mg base CX0 5 fa fd ["_law_script"] (sp_law K) := by
  obtain ⟨fclip, dclip, aclip, Fclip⟩ := X_clip
  have gclip := PySem.W.mg_of X G aclip
  have bclip : Binds K dclip ["number"] [] := Fclip.binds (ps := ["number"]) fun _ _ _ _ _ _ us hl => match us, hl with | [_], _ => rfl
  obtain ⟨fhull, dhull, ahull, Fhull⟩ := X_hull
  have ghull := PySem.W.mg_of X G ahull
  have bhull : Binds K dhull ["one", "other"] [] := Fhull.binds (ps := ["one", "other"]) fun _ _ _ _ _ _ us hl => match us, hl with | [_, _], _ => rfl
  obtain ⟨fplus, dplus, aplus, Fplus⟩ := X_plus
  have gplus := PySem.W.mg_of X G aplus
  have bplus : Binds K dplus ["one", "other"] [] := Fplus.binds (ps := ["one", "other"]) fun _ _ _ _ _ _ us hl => match us, hl with | [_, _], _ => rfl
  obtain ⟨fminus, dminus, aminus, Fminus⟩ := X_minus
  have gminus := PySem.W.mg_of X G aminus
  have bminus : Binds K dminus ["one", "other"] [] := Fminus.binds (ps := ["one", "other"]) fun _ _ _ _ _ _ us hl => match us, hl with | [_, _], _ => rfl
  obtain ⟨ftimes, dtimes, atimes, Ftimes⟩ := X_times
  have gtimes := PySem.W.mg_of X G atimes
  have btimes : Binds K dtimes ["one", "other"] [] := Ftimes.binds (ps := ["one", "other"]) fun _ _ _ _ _ _ us hl => match us, hl with | [_, _], _ => rfl
  obtain ⟨fless, dless, aless, Fless⟩ := X_less
  have gless := PySem.W.mg_of X G aless
  have bless : Binds K dless ["one", "other"] [] := Fless.binds (ps := ["one", "other"]) fun _ _ _ _ _ _ us hl => match us, hl with | [_, _], _ => rfl
  obtain ⟨fsame, dsame, asame, Fsame⟩ := X_same
  have gsame := PySem.W.mg_of X G asame
  have bsame : Binds K dsame ["one", "other"] [] := Fsame.binds (ps := ["one", "other"]) fun _ _ _ _ _ _ us hl => match us, hl with | [_, _], _ => rfl
  obtain ⟨f_law_deck, d_law_deck, a_law_deck, F_law_deck⟩ := X_law_deck
  have g_law_deck := PySem.W.mg_of X G a_law_deck
  have b_law_deck : Binds K d_law_deck ["_law_script"] [] := F_law_deck.binds (ps := ["_law_script"]) fun _ _ _ _ _ _ us hl => match us, hl with | [_], _ => rfl
  obtain ⟨f_law_draw, d_law_draw, a_law_draw, F_law_draw⟩ := X_law_draw
  have g_law_draw := PySem.W.mg_of X G a_law_draw
  have b_law_draw : Binds K d_law_draw ["_law_deck_here", "_law_most"] [] := F_law_draw.binds (ps := ["_law_deck_here", "_law_most"]) fun _ _ _ _ _ _ us hl => match us, hl with | [_, _], _ => rfl
  obtain ⟨f_law_pick, d_law_pick, a_law_pick, F_law_pick⟩ := X_law_pick
  have g_law_pick := PySem.W.mg_of X G a_law_pick
  have b_law_pick : Binds K d_law_pick ["_law_deck_here", "_law_some"] [] := F_law_pick.binds (ps := ["_law_deck_here", "_law_some"]) fun _ _ _ _ _ _ us hl => match us, hl with | [_, _], _ => rfl
  obtain ⟨f_law_small, d_law_small, a_law_small, F_law_small⟩ := X_law_small
  have g_law_small := PySem.W.mg_of X G a_law_small
  have b_law_small : Binds K d_law_small ["_law_deck_here"] [] := F_law_small.binds (ps := ["_law_deck_here"]) fun _ _ _ _ _ _ us hl => match us, hl with | [_], _ => rfl
  obtain ⟨f_law_end, d_law_end, a_law_end, F_law_end⟩ := X_law_end
  have g_law_end := PySem.W.mg_of X G a_law_end
  have b_law_end : Binds K d_law_end ["_law_deck_here"] [] := F_law_end.binds (ps := ["_law_deck_here"]) fun _ _ _ _ _ _ us hl => match us, hl with | [_], _ => rfl
  obtain ⟨f_law_great, d_law_great, a_law_great, F_law_great⟩ := X_law_great
  have g_law_great := PySem.W.mg_of X G a_law_great
  have b_law_great : Binds K d_law_great ["_law_deck_here"] [] := F_law_great.binds (ps := ["_law_deck_here"]) fun _ _ _ _ _ _ us hl => match us, hl with | [_], _ => rfl
  obtain ⟨f_law_clipped, d_law_clipped, a_law_clipped, F_law_clipped⟩ := X_law_clipped
  have g_law_clipped := PySem.W.mg_of X G a_law_clipped
  have b_law_clipped : Binds K d_law_clipped ["_law_some"] [] := F_law_clipped.binds (ps := ["_law_some"]) fun _ _ _ _ _ _ us hl => match us, hl with | [_], _ => rfl
  obtain ⟨f_law_values, d_law_values, a_law_values, F_law_values⟩ := X_law_values
  have g_law_values := PySem.W.mg_of X G a_law_values
  have b_law_values : Binds K d_law_values ["_law_span"] [] := F_law_values.binds (ps := ["_law_span"]) fun _ _ _ _ _ _ us hl => match us, hl with | [_], _ => rfl
  obtain ⟨f_law_small_due, d_law_small_due, a_law_small_due, F_law_small_due⟩ := X_law_small_due
  have g_law_small_due := PySem.W.mg_of X G a_law_small_due
  have b_law_small_due : Binds K d_law_small_due ["_law_one", "_law_other"] [] := F_law_small_due.binds (ps := ["_law_one", "_law_other"]) fun _ _ _ _ _ _ us hl => match us, hl with | [_, _], _ => rfl
  obtain ⟨f_law_great_due, d_law_great_due, a_law_great_due, F_law_great_due⟩ := X_law_great_due
  have g_law_great_due := PySem.W.mg_of X G a_law_great_due
  have b_law_great_due : Binds K d_law_great_due ["_law_one", "_law_other"] [] := F_law_great_due.binds (ps := ["_law_one", "_law_other"]) fun _ _ _ _ _ _ us hl => match us, hl with | [_, _], _ => rfl
  obtain ⟨f_law_told, d_law_told, a_law_told, F_law_told⟩ := X_law_told
  have g_law_told := PySem.W.mg_of X G a_law_told
  have b_law_told : Binds K d_law_told ["_law_one", "_law_other"] [] := F_law_told.binds (ps := ["_law_one", "_law_other"]) fun _ _ _ _ _ _ us hl => match us, hl with | [_, _], _ => rfl
  obtain ⟨f_law_right, d_law_right, a_law_right, F_law_right⟩ := X_law_right
  have g_law_right := PySem.W.mg_of X G a_law_right
  have b_law_right : Binds K d_law_right ["_law_one", "_law_other", "_law_due"] [] := F_law_right.binds (ps := ["_law_one", "_law_other", "_law_due"]) fun _ _ _ _ _ _ us hl => match us, hl with | [_, _, _], _ => rfl
  obtain ⟨f_law0, d_law0, a_law0, F_law0⟩ := X_law
  have e := hfa.symm.trans (PySem.W.mg_of X G a_law0)
  cases e
  have mmax := PySem.W.mg_none_of X G z_max
  have mmin := PySem.W.mg_none_of X G z_min
  have mlist := PySem.W.mg_none_of X G z_list
  have msum := PySem.W.mg_none_of X G z_sum
  have mlen := PySem.W.mg_none_of X G z_len
  have msorted := PySem.W.mg_none_of X G z_sorted
  have mrange := PySem.W.mg_none_of X G z_range
  have mint := PySem.W.mg_none_of X G z_int
  have mrepr := PySem.W.mg_none_of X G z_repr
  have mLIMIT := PySem.W.mg_of X G c_LIMIT
  obtain ⟨oc, od, kV, doc, pm, an, cdv, ct, osl, hfd, _, _⟩ := F_law0.ex
  refine ⟨d_law0, fun s v => ?_, fun base _ _ => ?_⟩
  · subst hfd
    exact .of_eq rfl
  · have G1 : FnOk P w K mg base CX0 1 fclip dclip ["number"] sp_clip := ok_clip Fclip mLIMIT mmax mmin
    have G2 := ok_hull (P := P) (w := w) (mg := mg) (base := base) (k := 0) Fhull mmax mmin
    have G3 := ok_plus (k := 1) Fplus G1 gclip Fclip.kp bclip
    have G4 := ok_minus (k := 1) Fminus G1 gclip Fclip.kp bclip
    have G5 := ok_times (k := 1) Ftimes G1 gclip Fclip.kp bclip mmax mmin
    have G6 := ok_less (P := P) (w := w) (mg := mg) (base := base) (k := 1) Fless
    have G7 := ok_same (P := P) (w := w) (mg := mg) (base := base) (k := 1) Fsame
    have G8 := ok_deck (P := P) (w := w) (mg := mg) (base := base) (k := 0) F_law_deck mlist msum mlen
    have G9 := ok_draw (P := P) (w := w) (mg := mg) (base := base) (k := 0) F_law_draw
    have G10 := ok_pick (k := 1) F_law_pick G9 g_law_draw F_law_draw.kp b_law_draw mlen
    have G11 := ok_small (k := 2) F_law_small (G9.mono (by decide)) g_law_draw F_law_draw.kp b_law_draw G10 g_law_pick F_law_pick.kp b_law_pick
    have G12 := ok_end (k := 2) F_law_end (G9.mono (by decide)) g_law_draw F_law_draw.kp b_law_draw G10 g_law_pick F_law_pick.kp b_law_pick
    have G13 := ok_great (k := 3) F_law_great G12 g_law_end F_law_end.kp b_law_end msorted
    have G14 := ok_clipped (P := P) (w := w) (mg := mg) (base := base) (k := 0) F_law_clipped mmax mmin
    have G15 := ok_values (P := P) (w := w) (mg := mg) (base := base) (k := 0) F_law_values mlist mrange
    have G16 := ok_small_due (k := 1) F_law_small_due G15 g_law_values F_law_values.kp b_law_values G14 g_law_clipped F_law_clipped.kp b_law_clipped mint
    have G17 := ok_great_due (k := 1) F_law_great_due G14 g_law_clipped F_law_clipped.kp b_law_clipped mint
    have G18 := ok_told (k := 2) F_law_told G3 gplus Fplus.kp bplus G4 gminus Fminus.kp bminus G5 gtimes Ftimes.kp btimes G6 gless Fless.kp bless G7 gsame Fsame.kp bsame
    have G19 := ok_right (k := 3) F_law_right G18 g_law_told F_law_told.kp b_law_told (G2.mono (by decide)) ghull Fhull.kp bhull mmax mmin mrepr
    exact ok_law (k := 4) F_law0 (G8.mono (by decide)) g_law_deck F_law_deck.kp b_law_deck (G9.mono (by decide)) g_law_draw F_law_draw.kp b_law_draw (G10.mono (by decide)) g_law_pick F_law_pick.kp b_law_pick (G11.mono (by decide)) g_law_small F_law_small.kp b_law_small G13 g_law_great F_law_great.kp b_law_great (G16.mono (by decide)) g_law_small_due F_law_small_due.kp b_law_small_due (G17.mono (by decide)) g_law_great_due F_law_great_due.kp b_law_great_due G19 g_law_right F_law_right.kp b_law_right mrange
end K2
open PySem PySem.W PyProof.Rows
set_option maxHeartbeats 0 in
theorem PySem.Challenge.cw_lookdone_k02_spans_by_all_pairs_of_value_holds : PySem.Challenge.rw_lookdone_k02_spans_by_all_pairs_of_value.Holds := by
  w_on; o_law; k_head; (case hw => w_witness2)
  k_fill
  refine GR.walk_g (l := PySem.Challenge.rw_lookdone_k02_spans_by_all_pairs_of_value) (n := 63) (k := 5) (x := "_law_script") (sp := K2.sp_law) rfl (by decide) rfl ⟨rfl, by decide, by decide⟩ (fun w h Y => PySem.W.kIn_of Y) ?F (fun _ _ a ns hl _ hS => ⟨a, ns, rfl, hS, fun _ => rfl⟩)
  case F =>
    intro w mg fa h KX G hmg
    refine' K2.all_mk KX G hmg (K2.has_mk ?a_clip ?l_clip ?c_clip ?k_clip) (K2.has_mk ?a_hull ?l_hull ?c_hull ?k_hull) (K2.has_mk ?a_plus ?l_plus ?c_plus ?k_plus) (K2.has_mk ?a_minus ?l_minus ?c_minus ?k_minus) (K2.has_mk ?a_times ?l_times ?c_times ?k_times) (K2.has_mk ?a_less ?l_less ?c_less ?k_less) (K2.has_mk ?a_same ?l_same ?c_same ?k_same) (K2.has_mk ?a_law_deck ?l_law_deck ?c_law_deck ?k_law_deck) (K2.has_mk ?a_law_draw ?l_law_draw ?c_law_draw ?k_law_draw) (K2.has_mk ?a_law_pick ?l_law_pick ?c_law_pick ?k_law_pick) (K2.has_mk ?a_law_small ?l_law_small ?c_law_small ?k_law_small) (K2.has_mk ?a_law_end ?l_law_end ?c_law_end ?k_law_end) (K2.has_mk ?a_law_great ?l_law_great ?c_law_great ?k_law_great) (K2.has_mk ?a_law_clipped ?l_law_clipped ?c_law_clipped ?k_law_clipped) (K2.has_mk ?a_law_values ?l_law_values ?c_law_values ?k_law_values) (K2.has_mk ?a_law_small_due ?l_law_small_due ?c_law_small_due ?k_law_small_due) (K2.has_mk ?a_law_great_due ?l_law_great_due ?c_law_great_due ?k_law_great_due) (K2.has_mk ?a_law_told ?l_law_told ?c_law_told ?k_law_told) (K2.has_mk ?a_law_right ?l_law_right ?c_law_right ?k_law_right) (K2.has_mk ?a_law ?l_law ?c_law ?k_law) ?z_max ?z_min ?z_list ?z_sum ?z_len ?z_sorted ?z_range ?z_int ?z_repr ?c0_LIMIT
    (case a_clip => k_is)
    (case l_clip => k_is)
    (case c_clip => k_is)
    (case k_clip => k_is)
    (case a_hull => k_is)
    (case l_hull => k_is)
    (case c_hull => k_is)
    (case k_hull => k_is)
    (case a_plus => k_is)
    (case l_plus => k_is)
    (case c_plus => k_is)
    (case k_plus => k_is)
    (case a_minus => k_is)
    (case l_minus => k_is)
    (case c_minus => k_is)
    (case k_minus => k_is)
    (case a_times => k_is)
    (case l_times => k_is)
    (case c_times => k_is)
    (case k_times => k_is)
    (case a_less => k_is)
    (case l_less => k_is)
    (case c_less => k_is)
    (case k_less => k_is)
    (case a_same => k_is)
    (case l_same => k_is)
    (case c_same => k_is)
    (case k_same => k_is)
    (case a_law_deck => k_is)
    (case l_law_deck => k_is)
    (case c_law_deck => k_is)
    (case k_law_deck => k_is)
    (case a_law_draw => k_is)
    (case l_law_draw => k_is)
    (case c_law_draw => k_is)
    (case k_law_draw => k_is)
    (case a_law_pick => k_is)
    (case l_law_pick => k_is)
    (case c_law_pick => k_is)
    (case k_law_pick => k_is)
    (case a_law_small => k_is)
    (case l_law_small => k_is)
    (case c_law_small => k_is)
    (case k_law_small => k_is)
    (case a_law_end => k_is)
    (case l_law_end => k_is)
    (case c_law_end => k_is)
    (case k_law_end => k_is)
    (case a_law_great => k_is)
    (case l_law_great => k_is)
    (case c_law_great => k_is)
    (case k_law_great => k_is)
    (case a_law_clipped => k_is)
    (case l_law_clipped => k_is)
    (case c_law_clipped => k_is)
    (case k_law_clipped => k_is)
    (case a_law_values => k_is)
    (case l_law_values => k_is)
    (case c_law_values => k_is)
    (case k_law_values => k_is)
    (case a_law_small_due => k_is)
    (case l_law_small_due => k_is)
    (case c_law_small_due => k_is)
    (case k_law_small_due => k_is)
    (case a_law_great_due => k_is)
    (case l_law_great_due => k_is)
    (case c_law_great_due => k_is)
    (case k_law_great_due => k_is)
    (case a_law_told => k_is)
    (case l_law_told => k_is)
    (case c_law_told => k_is)
    (case k_law_told => k_is)
    (case a_law_right => k_is)
    (case l_law_right => k_is)
    (case c_law_right => k_is)
    (case k_law_right => k_is)
    (case a_law => k_is)
    (case l_law => k_is)
    (case c_law => k_is)
    (case k_law => k_is)
    (case z_max => k_is)
    (case z_min => k_is)
    (case z_list => k_is)
    (case z_sum => k_is)
    (case z_len => k_is)
    (case z_sorted => k_is)
    (case z_range => k_is)
    (case z_int => k_is)
    (case z_repr => k_is)
    (case c0_LIMIT => k_is)
